"""[21]: how often things and knots go out, and how far knots reach."""

import random
import unittest

from sumnets.errors import NetError, NoNet, NotBeside
from sumnets.outs import lengths_of, most_out, outs_of
from sumnets.spans import spans_of
from tests.samples import (
    NETS_NOT_BESIDE, WRONG_NETS, doubling_chain, error_of, one_by_one_net, random_net, random_right_net, stepped_net)

NET = (4, ((0, 1), (2, 3), (4, 2), (4, 5), (1, 2)), (0, 4, 6, 7, 7))
# Not right; knots of the same number twice.
TWISTED = (3, ((2, 0), (3, 3), (3, 1), (4, 4)), (6,))


class Outs(unittest.TestCase):
    def test_ordinary_nets(self):
        self.assertEqual(outs_of(NET), [1, 2, 3, 1, 2, 1, 0, 0, 0])
        self.assertEqual(most_out(NET), 3)
        self.assertIsInstance(outs_of(NET), list)

    def test_nets_that_are_not_right(self):
        self.assertEqual(outs_of(TWISTED), [1, 1, 1, 3, 2, 0, 0])
        self.assertEqual(most_out(TWISTED), 3)

    def test_the_same_one_twice_counts_twice(self):
        self.assertEqual(outs_of((2, ((1, 1),), (0,))), [0, 2, 0])
        self.assertEqual(most_out((2, ((1, 1),), (0,))), 2)

    def test_ends_do_not_count(self):
        self.assertEqual(outs_of((2, ((0, 1),), (2,) * 400)), [1, 1, 0])
        self.assertEqual(most_out((1, (), (0,) * 400)), 0)

    def test_no_knots(self):
        for width in (1, 64):
            self.assertEqual(outs_of((width, (), (0,))), [0] * width)
            self.assertEqual(most_out((width, (), (0,))), 0)
            self.assertEqual(lengths_of((width, (), (0,))), [])

    def test_a_thousand_knots(self):
        self.assertEqual(outs_of(doubling_chain(1000)), [2] * 1000 + [0])
        self.assertEqual(most_out(doubling_chain(1000)), 2)
        self.assertEqual(outs_of((2, ((0, 1),) * 1000, (2,))), [1000, 1000] + [0] * 1000)
        self.assertEqual(most_out((2, ((0, 0),) * 1000, (2,))), 2000)

    def test_random_nets(self):
        dice = random.Random(21)
        for trial in range(200):
            net = random_net(dice, dice.randrange(1, 8), dice.randrange(20))
            sides = [side for knot in net[1] for side in knot]
            outs = [sides.count(number) for number in range(net[0] + len(net[1]))]
            self.assertEqual(outs_of(net), outs)
            self.assertEqual(most_out(net), max(outs))

    def test_no_net(self):
        for call in (outs_of, most_out, lengths_of):
            for wrong in WRONG_NETS + (doubling_chain(1001),):
                error = error_of(call, wrong)
                self.assertIs(type(error), NoNet)
                self.assertIsInstance(error, NetError)

    def test_lists_are_built_anew(self):
        for call in (outs_of, lengths_of):
            first = call(NET)
            kept = list(first)
            first.clear()
            self.assertEqual(call(NET), kept)


class Lengths(unittest.TestCase):
    def test_ordinary_nets(self):
        self.assertEqual(lengths_of(NET), [1, 1, 1, 2, 1])
        self.assertEqual(lengths_of((3, ((1, 2), (0, 3)), (4,))), [1, 2])
        self.assertIsInstance(lengths_of(NET), list)

    def test_known_nets(self):
        self.assertEqual(lengths_of(one_by_one_net(64)), [1] * 63)
        steps = [step for step in (1, 2, 4, 8, 16, 32) for place in range(step, 64)]
        self.assertEqual(lengths_of(stepped_net(64)), steps)

    def test_a_length_is_the_size_of_the_right_one(self):
        dice = random.Random(22)
        for trial in range(100):
            net, spans, ends = random_right_net(dice, dice.randrange(1, 12), dice.randrange(14))
            everyone = [(place, place) for place in range(net[0])] + list(spans)
            lengths = [everyone[right][1] - everyone[right][0] + 1 for left, right in net[1]]
            self.assertEqual(lengths_of(net), lengths)
            for knot, span, length in zip(net[1], spans_of(net), lengths_of(net)):
                self.assertEqual(length, span[1] - everyone[knot[0]][1])

    def test_not_beside(self):
        for net, knot in NETS_NOT_BESIDE:
            error = error_of(lengths_of, net)
            self.assertIs(type(error), NotBeside)
            self.assertIsInstance(error, NetError)
            self.assertEqual(error.knot, knot)

    def test_no_net_goes_first(self):
        self.assertIs(type(error_of(lengths_of, (2, ((1, 0),), (5,)))), NoNet)
        self.assertIs(type(error_of(lengths_of, (2, ((1, 0), (7, 7)), (0,)))), NoNet)

    def test_outs_of_nets_not_beside(self):
        for net, knot in NETS_NOT_BESIDE:
            self.assertEqual(sum(outs_of(net)), 2 * len(net[1]))


if __name__ == "__main__":
    unittest.main()
