"""[34], and [1] and [7] as far as nets behind one another bear them."""

import random
import unittest

from sumnets.behind import behind
from sumnets.errors import NetError, NoEnds, NoNet, NotBeside, TooMany
from sumnets.levels import depth_of
from sumnets.rows import beginnings_told
from sumnets.spans import tells_beginnings
from sumnets.telling import told
from tests.nets_made import NO_ENDS, padded, random_beginnings, rule_nets
from tests.samples import (
    JOININGS, NETS_NOT_BESIDE, WRONG_NETS, error_of, one_by_one_net, random_row, stepped_net)

ALONE = (1, (), (0,))
PAIR = (2, ((0, 1),), (0, 2))
APART = (2, ((0, 1), (1, 0)), (0, 2))


def slow_behind(net, other):
    """The words of the document, by names: ("n", k) is number k of net, ("o", k) of other, ("x", k) a new knot."""
    order = [("n", place) for place in range(net[0])] + [("o", place) for place in range(other[0])]
    pairs = {}
    for sign, (width, knots, ends) in (("n", net), ("o", other)):
        for at, (left, right) in enumerate(knots):
            order.append((sign, width + at))
            pairs[sign, width + at] = ((sign, left), (sign, right))
    new = []
    for end in other[2]:
        new.append(("x", len(new)))
        pairs[new[-1]] = (("n", net[2][-1]), ("o", end))
    order += new
    wide = net[0] + other[0]
    knots = tuple((order.index(pairs[name][0]), order.index(pairs[name][1])) for name in order[wide:])
    return (wide, knots, tuple(order.index(name) for name in [("n", end) for end in net[2]] + new))


class Behind(unittest.TestCase):
    def test_by_hand(self):
        self.assertEqual(behind(ALONE, ALONE), (2, ((0, 1),), (0, 2)))
        self.assertEqual(behind(PAIR, ALONE), (3, ((0, 1), (3, 2)), (0, 3, 4)))
        self.assertEqual(behind(ALONE, PAIR), (3, ((1, 2), (0, 1), (0, 3)), (0, 4, 5)))
        self.assertEqual(behind(PAIR, PAIR), (4, ((0, 1), (2, 3), (4, 2), (4, 5)), (0, 4, 6, 7)))
        three = (3, ((0, 1), (1, 2), (0, 4)), (0, 3, 5))
        self.assertEqual(
            behind(PAIR, three), (5, ((0, 1), (2, 3), (3, 4), (2, 7), (5, 2), (5, 6), (5, 8)), (0, 5, 9, 10, 11)))
        self.assertEqual(
            behind(three, PAIR), (5, ((0, 1), (1, 2), (0, 6), (3, 4), (7, 3), (7, 8)), (0, 5, 7, 9, 10)))

    def test_needless_knots_stay(self):
        one = (2, ((0, 1), (0, 1)), (0, 3))
        self.assertEqual(behind(one, one), (4, ((0, 1), (0, 1), (2, 3), (2, 3), (5, 2), (5, 7)), (0, 5, 8, 9)))

    def test_by_the_words(self):
        dice = random.Random(110)
        for trial in range(200):
            one = random_beginnings(dice, dice.randrange(1, 10))
            other = random_beginnings(dice, dice.randrange(1, 10))
            both = behind(one, other)
            self.assertEqual(both, slow_behind(one, other))
            self.assertTrue(tells_beginnings(both))
            self.assertIs(type(both[1]), tuple)
            self.assertIs(type(both[2]), tuple)

    def test_nets_by_rules(self):
        for one in rule_nets(5):
            for other in rule_nets(7):
                both = behind(one, other)
                self.assertEqual(both, slow_behind(one, other))
                self.assertTrue(tells_beginnings(both))
                self.assertLessEqual(depth_of(both), 1 + max(depth_of(one), depth_of(other)))

    def test_a_net_behind_itself(self):
        net = stepped_net(9)
        self.assertTrue(tells_beginnings(behind(net, net)))
        self.assertEqual(net, stepped_net(9))

    def test_what_it_tells(self):
        dice = random.Random(111)
        for joining, things in JOININGS:
            for trial in range(6):
                one = random_beginnings(dice, dice.randrange(1, 7))
                other = random_beginnings(dice, dice.randrange(1, 7))
                row = random_row(dice, things, one[0] + other[0])
                self.assertEqual(told(behind(one, other), joining, row), beginnings_told(joining, row))

    def test_things_together(self):
        for width in (1, 2, 31, 32, 33, 62, 63):
            both = behind(one_by_one_net(width), stepped_net(64 - width))
            self.assertEqual(both[0], 64)
            self.assertTrue(tells_beginnings(both))
            for wide in (one_by_one_net(width + 1), one_by_one_net(64)):
                self.assertIs(type(error_of(behind, wide, stepped_net(64 - width))), TooMany)
                self.assertIs(type(error_of(behind, stepped_net(64 - width), wide)), TooMany)
        self.assertIs(type(error_of(behind, one_by_one_net(64), ALONE)), TooMany)
        self.assertIs(type(error_of(behind, ALONE, one_by_one_net(64))), TooMany)

    def test_knots_together(self):
        # The knots of both, and one for each thing of the other.
        for count, other_count in ((987, 8), (5, 990), (900, 95), (1, 994), (497, 498)):
            one, other = padded(PAIR, count), padded(stepped_net(5), other_count)
            both = behind(one, other)
            self.assertEqual(len(both[1]), 1000)
            self.assertTrue(tells_beginnings(both))
            self.assertIs(type(error_of(behind, padded(one, len(one[1]) + 1), other)), TooMany)
            self.assertIs(type(error_of(behind, one, padded(other, len(other[1]) + 1))), TooMany)
        self.assertEqual(len(behind(padded(PAIR, 999), ALONE)[1]), 1000)
        self.assertIs(type(error_of(behind, padded(PAIR, 1000), ALONE)), TooMany)
        self.assertEqual(len(behind(ALONE, padded(PAIR, 998))[1]), 1000)
        self.assertIs(type(error_of(behind, ALONE, padded(PAIR, 999))), TooMany)
        self.assertIs(type(error_of(behind, padded(PAIR, 1000), padded(PAIR, 1000))), TooMany)

    def test_no_net(self):
        for wrong in WRONG_NETS:
            for others in ((wrong, PAIR), (PAIR, wrong), (wrong, wrong), (wrong, APART), (wrong, NO_ENDS[0])):
                error = error_of(behind, *others)
                self.assertIs(type(error), NoNet)
                self.assertIsInstance(error, NetError)

    def test_not_beside(self):
        for net, knot in NETS_NOT_BESIDE:
            for others in ((net, PAIR), (PAIR, net), (net, None), (net, NO_ENDS[0]), (net, APART)):
                error = error_of(behind, *others)
                self.assertIs(type(error), NotBeside)
                self.assertEqual(error.knot, knot)

    def test_no_ends(self):
        for net in NO_ENDS:
            for others in ((net, PAIR), (PAIR, net), (net, None), (net, APART), (one_by_one_net(64), net),
                           (net, one_by_one_net(64)), (padded(PAIR, 1000), net)):
                self.assertIs(type(error_of(behind, *others)), NoEnds)

    def test_of_the_first_net_first(self):
        self.assertIs(type(error_of(behind, APART, None)), NotBeside)
        self.assertIs(type(error_of(behind, NO_ENDS[0], None)), NoEnds)
        self.assertIs(type(error_of(behind, NO_ENDS[0], APART)), NoEnds)
        self.assertIs(type(error_of(behind, None, APART)), NoNet)
        self.assertIs(type(error_of(behind, one_by_one_net(64), None)), NoNet)
        self.assertIs(type(error_of(behind, one_by_one_net(64), APART)), NotBeside)
        self.assertIs(type(error_of(behind, padded(PAIR, 1000), NO_ENDS[1])), NoEnds)
        self.assertEqual(error_of(behind, APART, NETS_NOT_BESIDE[3][0]).knot, 3)


if __name__ == "__main__":
    unittest.main()
