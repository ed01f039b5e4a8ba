"""[22]: needed knots, and nets without the others."""

import random
import unittest

from sumnets.errors import NetError, NoNet
from sumnets.nets import look_at_net
from sumnets.spans import tells
from sumnets.telling import told
from sumnets.trimmed import needed, trimmed
from tests.samples import (
    NETS_NOT_BESIDE, WRONG_NETS, doubling_chain, error_of, one_by_one_net, random_net, random_right_net, stepped_net)

# Knots 5 and 8 are needless; 7 is needed by 9 alone.
NET = (4, ((0, 1), (1, 2), (4, 2), (2, 3), (5, 3), (4, 7)), (0, 4, 6, 9, 6))
TRIMMED = (4, ((0, 1), (4, 2), (2, 3), (4, 6)), (0, 4, 5, 7, 5))


def slow_needed(net):
    """Needed knots straight from the words of the document: until none is added any more."""
    width, knots, ends = net
    found = {end for end in ends if end >= width}
    while True:
        more = {side for number in found for side in knots[number - width] if side >= width}
        if more <= found:
            return sorted(found)
        found |= more


def shape(net, number):
    """What a thing or a knot is made of, without numbers of knots."""
    if number < net[0]:
        return number
    left, right = net[1][number - net[0]]
    return (shape(net, left), shape(net, right))


class Needed(unittest.TestCase):
    def test_ordinary_nets(self):
        self.assertEqual(needed(NET), [4, 6, 7, 9])
        self.assertEqual(needed((3, ((0, 1), (3, 2), (1, 2)), (4,))), [3, 4])
        self.assertEqual(needed((3, ((0, 1), (3, 2), (1, 2)), (5, 3))), [3, 5])
        self.assertEqual(needed((3, ((0, 1), (3, 2), (1, 2)), (0, 1))), [])
        self.assertIsInstance(needed(NET), list)

    def test_no_knots(self):
        for width in (1, 64):
            self.assertEqual(needed((width, (), (width - 1,))), [])
            self.assertEqual(trimmed((width, (), (width - 1, 0))), (width, (), (width - 1, 0)))

    def test_an_end_that_is_needed_besides(self):
        self.assertEqual(needed((3, ((0, 1), (3, 2)), (3, 4))), [3, 4])
        self.assertEqual(needed((3, ((0, 1), (3, 2)), (4, 3, 4))), [3, 4])

    def test_the_same_one_twice(self):
        self.assertEqual(needed((1, ((0, 0), (1, 1), (0, 0), (2, 2)), (4,))), [1, 2, 4])

    def test_a_thousand_knots(self):
        for count in (1, 2, 999, 1000):
            self.assertEqual(needed(doubling_chain(count)), list(range(1, count + 1)))
            self.assertEqual(trimmed(doubling_chain(count)), doubling_chain(count))
        net = (1, doubling_chain(1000)[1], (500,))
        self.assertEqual(needed(net), list(range(1, 501)))
        self.assertEqual(trimmed(net), (1, doubling_chain(500)[1], (500,)))
        self.assertEqual(trimmed((1, doubling_chain(1000)[1], (0,))), (1, (), (0,)))

    def test_random_nets(self):
        dice = random.Random(31)
        for trial in range(300):
            net = random_net(dice, dice.randrange(1, 8), dice.randrange(30))
            self.assertEqual(needed(net), slow_needed(net))

    def test_no_net(self):
        for call in (needed, trimmed):
            for wrong in WRONG_NETS + (doubling_chain(1001),):
                error = error_of(call, wrong)
                self.assertIs(type(error), NoNet)
                self.assertIsInstance(error, NetError)

    def test_lists_are_built_anew(self):
        needed(NET).clear()
        self.assertEqual(needed(NET), [4, 6, 7, 9])


class Trimmed(unittest.TestCase):
    def test_ordinary_nets(self):
        self.assertEqual(trimmed(NET), TRIMMED)
        self.assertEqual(trimmed((3, ((0, 1), (3, 2), (1, 2)), (5, 0))), (3, ((1, 2),), (3, 0)))

    def test_nets_that_are_not_right(self):
        self.assertEqual(
            trimmed((2, ((1, 0), (0, 0), (1, 1), (3, 2), (4, 3)), (5, 5, 1))), (2, ((1, 0), (0, 0), (3, 2)), (4, 4, 1)))
        for net, knot in NETS_NOT_BESIDE:
            look_at_net(trimmed(net))

    def test_nets_without_needless_knots_stay(self):
        for net in (one_by_one_net(64), stepped_net(64), TRIMMED, (1, (), (0,))):
            self.assertEqual(trimmed(net), net)

    def test_equal_knots_are_not_merged(self):
        net = (2, ((0, 1), (0, 1), (0, 1)), (2, 4))
        self.assertEqual(trimmed(net), (2, ((0, 1), (0, 1)), (2, 3)))

    def test_random_nets(self):
        dice = random.Random(32)
        for trial in range(200):
            net = random_net(dice, dice.randrange(1, 6), dice.randrange(12))
            new = trimmed(net)
            look_at_net(new)
            self.assertEqual(new[0], net[0])
            self.assertEqual(len(new[2]), len(net[2]))
            # Those that stay, in their order.
            numbers = range(new[0], new[0] + len(new[1]))
            self.assertEqual([shape(new, number) for number in numbers], [shape(net, number) for number in needed(net)])
            anew = dict(zip(needed(net), numbers))
            self.assertEqual(new[2], tuple(anew.get(end, end) for end in net[2]))
            self.assertEqual(needed(new), list(numbers))
            self.assertEqual(trimmed(new), new)

    def test_right_nets_tell_the_same(self):
        dice = random.Random(33)
        for trial in range(100):
            net, spans, ends = random_right_net(dice, dice.randrange(1, 10), dice.randrange(20))
            things = tuple((place,) for place in range(net[0]))
            self.assertTrue(tells(trimmed(net), ends))
            self.assertEqual(told(trimmed(net), ("rows",), things), told(net, ("rows",), things))


if __name__ == "__main__":
    unittest.main()
