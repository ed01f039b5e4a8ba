"""[20], [29], and [2] as far as it speaks of these checkers."""

import random
import unittest

from sumnets.errors import NetError, NoNet, NoSize
from sumnets.levels import depth_of, least_depth, levels_hold, levels_of, longest_way, way_holds
from tests.samples import (
    BIG, DEEP, NO_NUMBERS, NO_TUPLES, WRONG_NETS, doubling_chain, error_of, one_by_one_net, random_net, stepped_net)

NET = (4, ((0, 1), (2, 3), (4, 2), (4, 5), (6, 3), (1, 1)), (0, 4, 6, 7))
LEVELS = (1, 1, 2, 2, 3, 1)
# Knots that stand the other way about, and that aren't right.
TWISTED = (3, ((2, 0), (0, 3), (3, 1), (5, 5), (4, 6)), (7,))


def slow_depth(net, number):
    """A depth straight from the words of the document, for small nets."""
    if number < net[0]:
        return 0
    return 1 + max(slow_depth(net, part) for part in net[1][number - net[0]])


def is_way(net, way):
    return all(one in net[1][other - net[0]] for one, other in zip(way, way[1:]))


class LeastDepth(unittest.TestCase):
    def test_small_sizes(self):
        told = [least_depth(size) for size in range(1, 18)]
        self.assertEqual(told, [0, 1, 2, 2, 3, 3, 3, 3, 4, 4, 4, 4, 4, 4, 4, 4, 5])

    def test_powers_of_two(self):
        for power in range(2, 30):
            self.assertEqual(least_depth(2 ** power - 1), power)
            self.assertEqual(least_depth(2 ** power), power)
            if power < 29:
                self.assertEqual(least_depth(2 ** power + 1), power + 1)

    def test_the_greatest_size(self):
        self.assertEqual(least_depth(10 ** 9), 30)
        self.assertEqual(least_depth(10 ** 9 - 1), 30)

    def test_refused(self):
        for wrong in NO_NUMBERS + DEEP + (0, -1, -2, 10 ** 9 + 1, 2 ** 30, BIG, -BIG):
            error = error_of(least_depth, wrong)
            self.assertIs(type(error), NoSize)
            self.assertIsInstance(error, NetError)


class Levels(unittest.TestCase):
    def test_ordinary_nets(self):
        self.assertEqual(levels_of(NET), list(LEVELS))
        self.assertEqual(depth_of(NET), 3)
        self.assertEqual(levels_of(TWISTED), [1, 2, 2, 3, 4])
        self.assertEqual(depth_of(TWISTED), 4)
        self.assertIsInstance(levels_of(NET), list)

    def test_no_knots(self):
        for width in (1, 64):
            net = (width, (), (0,))
            self.assertEqual(levels_of(net), [])
            self.assertEqual(depth_of(net), 0)
            self.assertEqual(longest_way(net), ())
            self.assertIs(levels_hold(net, ()), True)
            self.assertIs(way_holds(net, ()), True)
            self.assertIs(way_holds(net, (0,)), False)
            self.assertIs(way_holds(net, (width,)), False)

    def test_the_deepest_knot_need_not_be_needed(self):
        self.assertEqual(depth_of((2, ((0, 1), (0, 2)), (0,))), 2)
        self.assertEqual(depth_of((2, ((0, 1), (0, 2), (0, 1)), (4,))), 2)

    def test_known_depths(self):
        for width in range(1, 65):
            self.assertEqual(depth_of(one_by_one_net(width)), width - 1)
            self.assertEqual(depth_of(stepped_net(width)), least_depth(width))

    def test_random_nets(self):
        dice = random.Random(11)
        for trial in range(200):
            net = random_net(dice, dice.randrange(1, 6), dice.randrange(9))
            numbers = range(net[0], net[0] + len(net[1]))
            levels = [slow_depth(net, number) for number in numbers]
            self.assertEqual(levels_of(net), levels)
            self.assertEqual(depth_of(net), max(levels + [0]))

    def test_a_thousand_knots_each_of_the_one_before_twice(self):
        net = doubling_chain(1000)
        self.assertEqual(levels_of(net), list(range(1, 1001)))
        self.assertEqual(depth_of(net), 1000)
        self.assertEqual(longest_way(net), tuple(range(1, 1001)))
        self.assertIs(levels_hold(net, tuple(range(1, 1001))), True)
        self.assertIs(levels_hold(net, tuple(range(1000))), False)
        self.assertIs(way_holds(net, tuple(range(1, 1001))), True)
        self.assertIs(way_holds(net, tuple(range(1, 1002))), False)
        self.assertIs(way_holds(net, tuple(range(1000))), False)

    def test_no_net(self):
        for call in (levels_of, depth_of, longest_way):
            for wrong in WRONG_NETS + (doubling_chain(1001),):
                self.assertIs(type(error_of(call, wrong)), NoNet)

    def test_lists_are_built_anew(self):
        levels_of(NET).clear()
        self.assertEqual(levels_of(NET), list(LEVELS))


class Ways(unittest.TestCase):
    def check(self, net):
        way = longest_way(net)
        self.assertIsInstance(way, tuple)
        self.assertEqual(len(way), depth_of(net))
        self.assertTrue(all(type(number) is int and number >= net[0] for number in way))
        self.assertTrue(is_way(net, way))
        if way:
            self.assertTrue(all(part < net[0] for part in net[1][way[0] - net[0]]))
        self.assertIs(way_holds(net, way), True)
        self.assertEqual(longest_way(net), way)

    def test_ordinary_nets(self):
        self.assertEqual(longest_way(NET), (4, 6, 8))
        for net in (NET, TWISTED, one_by_one_net(64), stepped_net(64), doubling_chain(1)):
            self.check(net)

    def test_random_nets(self):
        dice = random.Random(12)
        for trial in range(200):
            self.check(random_net(dice, dice.randrange(1, 6), dice.randrange(40)))


class LevelsHold(unittest.TestCase):
    def test_just_the_levels_hold(self):
        self.assertIs(levels_hold(NET, LEVELS), True)
        for wrong in (LEVELS[:-1], LEVELS + (1,), LEVELS[::-1], list(LEVELS), (), (LEVELS,), (0,) * 4 + LEVELS):
            self.assertIs(levels_hold(NET, wrong), False)
        for at, level in enumerate(LEVELS):
            wrongs = NO_NUMBERS + DEEP + (level + 1, level - 1, 0, -level, BIG, [level], (level,), str(level))
            for wrong in wrongs:
                self.assertIs(levels_hold(NET, LEVELS[:at] + (wrong,) + LEVELS[at + 1:]), False)

    def test_what_is_told_holds(self):
        dice = random.Random(13)
        for trial in range(50):
            net = random_net(dice, dice.randrange(1, 6), dice.randrange(1, 20))
            self.assertIs(levels_hold(net, tuple(levels_of(net))), True)
            self.assertIs(levels_hold(net, levels_of(net)), False)

    def test_anything(self):
        for wrong in NO_TUPLES + DEEP + WRONG_NETS:
            self.assertIs(levels_hold(NET, wrong), False)
            self.assertIs(levels_hold(wrong, LEVELS), False)
            self.assertIs(levels_hold(wrong, ()), False)
            self.assertIs(levels_hold(wrong, wrong), False)


class WayHolds(unittest.TestCase):
    def test_ways(self):
        for way in ((), (4,), (8,), (9,), (4, 6), (6, 8), (4, 7), (5, 7), (4, 6, 8)):
            self.assertIs(way_holds(NET, way), True)

    def test_no_ways(self):
        for way in ((5, 6), (6, 4), (4, 8), (4, 4), (4, 6, 7), (5, 6, 8), (4, 5), (6, 9), (4, 6, 8, 8), (8, 4, 6)):
            self.assertIs(way_holds(NET, way), False)

    def test_all_pairs(self):
        for one in range(-2, 12):
            for other in range(-2, 12):
                good = 4 <= one < 10 and 4 <= other < 10 and is_way(NET, (one, other))
                self.assertIs(way_holds(NET, (one, other)), good)

    def test_things_are_no_knots(self):
        for way in ((0,), (3,), (0, 4), (1, 9), (3, 8), (-1,), (-6,), (10,), (BIG,), (-BIG,)):
            self.assertIs(way_holds(NET, way), False)

    def test_truths_are_no_numbers(self):
        net = (1, ((0, 0), (1, 1)), (2,))
        self.assertIs(way_holds(net, (1, 2)), True)
        self.assertIs(way_holds(net, (True, 2)), False)
        self.assertIs(way_holds(net, (True,)), False)

    def test_anything(self):
        for wrong in NO_TUPLES + DEEP:
            self.assertIs(way_holds(NET, wrong), False)
        for wrong in NO_NUMBERS + DEEP:
            for way in ((wrong,), (4, wrong), (wrong, 6), (4, wrong, 8)):
                self.assertIs(way_holds(NET, way), False)
        for wrong in WRONG_NETS:
            self.assertIs(way_holds(wrong, ()), False)
            self.assertIs(way_holds(wrong, (4, 6)), False)
            self.assertIs(way_holds(wrong, wrong), False)
        self.assertIs(way_holds(NET, [4, 6]), False)
        self.assertIs(way_holds(NET, ((4, 6),)), False)


if __name__ == "__main__":
    unittest.main()
