"""[33], and [1], [7] and [8] as far as nets turned about bear them."""

import random
import unittest

from sumnets.errors import NetError, NoNet
from sumnets.joinings import look_at_joining
from sumnets.levels import levels_of
from sumnets.rows import row_joined, window_told
from sumnets.spans import spans_of, tells
from sumnets.telling import all_told, told
from sumnets.turning import turned_net
from tests.nets_made import random_beginnings, rule_nets
from tests.samples import (
    JOININGS, NETS_NOT_BESIDE, WRONG_NETS, doubling_chain, error_of, joining_depth, one_by_one_net, random_net,
    random_right_net, random_row, stepped_net)


def slow_turned(net):
    """The words of the document: thing i is thing width - 1 - i."""
    width, knots, ends = net
    anew = {number: number for number in range(width, width + len(knots))}
    for place in range(width):
        anew[place] = width - 1 - place
    new = []
    for left, right in knots:
        new.append((anew[right], anew[left]))
    return (width, tuple(new), tuple(anew[ends[len(ends) - 1 - at]] for at in range(len(ends))))


class Turned(unittest.TestCase):
    def test_by_hand(self):
        net = (4, ((0, 1), (2, 3), (4, 2), (4, 5)), (0, 4, 6, 7))
        self.assertEqual(turned_net(net), (4, ((2, 3), (0, 1), (1, 4), (5, 4)), (7, 6, 4, 3)))
        self.assertEqual(turned_net((3, (), (2, 0, 0))), (3, (), (2, 2, 0)))
        self.assertEqual(turned_net((2, ((0, 1),), (0, 2))), (2, ((0, 1),), (2, 1)))

    def test_of_width_one(self):
        self.assertEqual(turned_net((1, (), (0,))), (1, (), (0,)))
        self.assertEqual(turned_net((1, ((0, 0), (0, 1), (1, 2)), (2, 0, 3))),
                         (1, ((0, 0), (1, 0), (2, 1)), (3, 0, 2)))

    def test_nets_that_are_not_right(self):
        self.assertEqual(turned_net((3, ((0, 2), (2, 0), (1, 1), (3, 4)), (6, 1))),
                         (3, ((0, 2), (2, 0), (1, 1), (4, 3)), (1, 6)))
        dice = random.Random(100)
        for trial in range(300):
            net = random_net(dice, dice.randrange(1, 9), dice.randrange(12))
            self.assertEqual(turned_net(net), slow_turned(net))
            self.assertEqual(turned_net(turned_net(net)), net)
        for net, knot in NETS_NOT_BESIDE:
            self.assertEqual(turned_net(net), slow_turned(net))
            # A knot's two lie side by side in the turned net if they do in the net.
            self.assertEqual(error_of(spans_of, turned_net(net)).knot, knot)

    def test_the_most(self):
        for net in (doubling_chain(1000), (64, ((0, 1),) * 1000, (1063,) * 400), one_by_one_net(64), stepped_net(64)):
            self.assertEqual(turned_net(net), slow_turned(net))
            self.assertEqual(turned_net(turned_net(net)), net)

    def test_tuples(self):
        width, knots, ends = turned_net(stepped_net(5))
        self.assertIs(type(width), int)
        self.assertIs(type(knots), tuple)
        self.assertIs(type(ends), tuple)
        self.assertTrue(all(type(knot) is tuple for knot in knots))

    def test_of_beginnings(self):
        dice = random.Random(101)
        nets = [net for width in (1, 2, 3, 7, 16, 64) for net in rule_nets(width)]
        nets += [random_beginnings(dice, dice.randrange(1, 12)) for trial in range(60)]
        for net in nets:
            turned = turned_net(net)
            width = net[0]
            self.assertTrue(tells(turned, tuple((place, width - 1) for place in range(width))))
            self.assertEqual(turned_net(turned), net)
            self.assertEqual(levels_of(turned), levels_of(net))

    def test_spans(self):
        dice = random.Random(102)
        for trial in range(100):
            net, spans, ends = random_right_net(dice, dice.randrange(1, 10), dice.randrange(14))
            last = net[0] - 1
            turned = turned_net(net)
            self.assertEqual(spans_of(turned), [(last - behind, last - first) for first, behind in spans])
            self.assertTrue(tells(turned, tuple((last - behind, last - first) for first, behind in ends[::-1])))

    def test_what_it_tells(self):
        dice = random.Random(103)
        tried = 0
        for joining, things in JOININGS:
            for trial in range(12):
                net, spans, ends = random_right_net(dice, dice.randrange(1, 10), dice.randrange(14))
                row = random_row(dice, things, net[0])
                turned = turned_net(net)
                last = net[0] - 1
                for end, (first, behind) in zip(told(turned, joining, row[::-1])[::-1], ends):
                    self.assertEqual(end, window_told(joining, row[::-1], (last - behind, last - first)))
                if joining_depth(joining) < 4:
                    look_at_joining(("turned", joining))
                    tried += 1
                    self.assertEqual(told(turned, joining, row[::-1]), told(net, ("turned", joining), row)[::-1])
                    self.assertEqual(all_told(turned, joining, row[::-1]), all_told(net, ("turned", joining), row))
        self.assertGreater(tried, 200)

    def test_from_the_back(self):
        row = ((1,), (2,), (3,), (4,))
        for net in rule_nets(4):
            self.assertEqual(told(turned_net(net), ("rows",), row), [(1, 2, 3, 4), (2, 3, 4), (3, 4), (4,)])
        row = tuple((place + 2, 1 - place) for place in range(9))
        for net in rule_nets(9):
            self.assertEqual(
                told(turned_net(net), ("lines",), row), [row_joined(("lines",), row[place:]) for place in range(9)])

    def test_no_net(self):
        for wrong in WRONG_NETS:
            error = error_of(turned_net, wrong)
            self.assertIs(type(error), NoNet)
            self.assertIsInstance(error, NetError)


if __name__ == "__main__":
    unittest.main()
