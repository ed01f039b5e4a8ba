"""[32], [6]: nets of the fewest knots, with trees that show it."""

import itertools
import random
import unittest

from sumnets.cases import cases_holds
from sumnets.errors import NetError, NoDepth, NoWidth, NoWindow, TooMany, TooShallow
from sumnets.fewest import fewest
from sumnets.levels import depth_of, least_depth
from sumnets.rows import beginnings
from sumnets.spans import spans_of, tells
from tests.samples import BIG, DEEP, NO_NUMBERS, NO_TUPLES, deep_list, deep_tuple, error_of, tree_parts

WRONG_WINDOWS = NO_TUPLES + DEEP + (
    (), ((0,),), ((0, 1, 1),), ([0, 1],), ((1, 0),), ((0, 4),), ((-1, 0),), ((4, 4),), ((0, True),), ((False, 1),),
    ((0, None),), (("0", 1),), ("01",), (None,), (0, 1), ((0, BIG),), ((0, 1), None), ((0, 1), (3, 2)), [(0, 1)],
    ((0, deep_tuple(150)),), (deep_list(158),), {(0, 1): 1}, ((0, 1),) * 5 + ((0, 4),),
    ((0, 0), (0, 1), (0, 2), [0, 3]),
)


def least(windows):
    """The least depth that isn't refused."""
    return max(least_depth(last - first + 1) for first, last in windows)


def windows_of(width, low=0):
    return [(first, last) for first in range(width) for last in range(first + low, width)]


def closed_sets(width):
    """All sets of windows that are the spans of some net's knots, each window with the least depth that it can have."""
    everyone = sorted(windows_of(width, 1), key=lambda window: window[1] - window[0])
    for chosen in itertools.product((False, True), repeat=len(everyone)):
        depths = {(place, place): 0 for place in range(width)}
        for window, is_in in zip(everyone, chosen):
            if not is_in:
                continue
            first, last = window
            cuts = [
                1 + max(depths[first, behind], depths[behind + 1, last]) for behind in range(first, last)
                if (first, behind) in depths and (behind + 1, last) in depths]
            if not cuts:
                break
            depths[window] = min(cuts)
        else:
            yield depths


def fewest_by_trying(sets, width, windows, depth):
    """How many knots are needed, by trying all sets of spans."""
    return min(
        len(depths) - width for depths in sets
        if all(window in depths and depths[window] <= depth for window in windows))


class Fewest(unittest.TestCase):
    def check(self, width, windows, depth):
        net, tree = told = fewest(width, windows, depth)
        self.assertIs(type(told), tuple)
        self.assertEqual(net[0], width)
        self.assertIs(tells(net, windows), True)
        self.assertLessEqual(depth_of(net), depth)
        self.assertIs(cases_holds(width, windows, depth, len(net[1]), tree), True)
        self.assertLessEqual(tree_parts(tree), 20000)
        return len(net[1])

    def test_by_hand(self):
        self.assertEqual(fewest(1, ((0, 0),), 0), ((1, (), (0,)), ("many",)))
        self.assertEqual(fewest(2, ((0, 1),), 1), ((2, ((0, 1),), (2,)), ("many",)))
        self.assertEqual(fewest(2, ((1, 1), (0, 1), (1, 1)), 20), ((2, ((0, 1),), (1, 2, 1)), ("many",)))
        self.assertEqual(self.check(4, beginnings(4), 2), 4)
        self.assertEqual(self.check(4, ((0, 3),), 2), 3)
        self.assertEqual(self.check(4, ((0, 2), (1, 3)), 2), 3)
        self.assertEqual(self.check(4, ((0, 3), (1, 2)), 2), 4)
        self.assertEqual(self.check(4, ((0, 3), (1, 2)), 3), 3)

    def test_beginnings(self):
        known = {
            1: {0: 0}, 2: {1: 1}, 3: {2: 2}, 4: {2: 4, 3: 3}, 5: {3: 5, 4: 4}, 6: {3: 7, 4: 6, 5: 5},
            7: {3: 9, 4: 8, 5: 7, 6: 6}, 8: {3: 12, 4: 10, 5: 9, 6: 8, 7: 7}}
        for width in range(1, 9):
            for depth in range(least_depth(width), 21):
                count = self.check(width, beginnings(width), depth)
                self.assertEqual(count, known[width].get(depth, width - 1))
                self.assertGreaterEqual(count + depth, 2 * width - 2)

    def test_all_windows_of_small_widths_by_trying(self):
        for width in range(1, 5):
            sets = list(closed_sets(width))
            for count in range(1, 6):
                for windows in itertools.combinations(windows_of(width), count):
                    for depth in range(least(windows), width + 1):
                        told = self.check(width, windows, depth)
                        self.assertEqual(told, fewest_by_trying(sets, width, windows, depth))

    def test_windows_of_width_five_by_trying(self):
        sets = list(closed_sets(5))
        for count in range(1, 6):
            for windows in itertools.combinations(windows_of(5, 1), count):
                for depth in (least(windows), 3, 4):
                    if depth >= least(windows):
                        told = self.check(5, windows, depth)
                        self.assertEqual(told, fewest_by_trying(sets, 5, windows, depth))

    def test_some_windows_of_width_six_by_trying(self):
        sets = list(closed_sets(6))
        dice = random.Random(91)
        some = list(itertools.combinations(windows_of(6, 1), 5))
        for windows in dice.sample(some, 15):
            for depth in (least(windows), least(windows) + 1, 5):
                self.assertEqual(self.check(6, windows, depth), fewest_by_trying(sets, 6, windows, depth))

    def test_all_windows_of_width_six(self):
        for count in range(1, 6):
            for windows in itertools.combinations(windows_of(6, 1), count):
                counts = [self.check(6, windows, depth) for depth in range(least(windows), 6)]
                self.assertEqual(counts, sorted(counts, reverse=True))

    def test_any_order_and_windows_told_twice(self):
        dice = random.Random(92)
        for trial in range(300):
            width = dice.randrange(1, 7)
            windows = tuple(dice.choice(windows_of(width)) for step in range(dice.randrange(1, 6)))
            depth = dice.randrange(least(windows), 21)
            count = self.check(width, windows, depth)
            self.assertEqual(count, self.check(width, tuple(sorted(set(windows))), depth))

    def test_each_span_is_told_once(self):
        dice = random.Random(93)
        for trial in range(100):
            windows = tuple(dice.choice(windows_of(6)) for step in range(5))
            net, tree = fewest(6, windows, least(windows))
            self.assertEqual(len(set(spans_of(net))), len(net[1]))

    def test_the_same_each_time(self):
        for depth in range(3, 8):
            self.assertEqual(fewest(8, beginnings(8), depth), fewest(8, beginnings(8), depth))


class Refused(unittest.TestCase):
    def check(self, kind, *arguments):
        error = error_of(fewest, *arguments)
        self.assertIs(type(error), kind)
        self.assertIsInstance(error, NetError)

    def test_no_width(self):
        for wrong in NO_NUMBERS + DEEP + (0, -1, 9, 10, 64, 65, BIG, -BIG):
            self.check(NoWidth, wrong, ((0, 0),), 0)
            self.check(NoWidth, wrong, None, None)
        self.check(NoWidth, 9, beginnings(9), 9)

    def test_no_window(self):
        for wrong in WRONG_WINDOWS:
            self.check(NoWindow, 4, wrong, 3)
            self.check(NoWindow, 4, wrong, None)
        self.check(NoWindow, 6, ((0, 6),), 3)
        self.check(NoWindow, 8, ((0, 8),), 3)
        self.check(NoWindow, 7, (), 3)

    def test_too_many(self):
        self.assertIsNone(error_of(fewest, 6, ((0, 1),) * 5, 1))
        self.check(TooMany, 6, ((0, 1),) * 6, 1)
        self.check(TooMany, 6, ((0, 0),) * 6, 1)
        self.check(TooMany, 1, ((0, 0),) * 6, 0)
        self.check(TooMany, 1, ((0, 0),) * 2000, 0)
        for width in (7, 8):
            self.check(TooMany, width, ((0, 0),), 0)
            self.check(TooMany, width, ((0, 1), (1, 2)), 5)
            self.check(TooMany, width, beginnings(width)[:-1], 5)
            self.check(TooMany, width, beginnings(width) + ((0, 0),), 5)
            self.check(TooMany, width, beginnings(width)[::-1], 5)
            self.check(TooMany, width, beginnings(width)[1:], 5)
            self.check(TooMany, width, beginnings(width - 1), 5)
        self.check(TooMany, 6, beginnings(6)[::-1], 5)
        self.check(TooMany, 6, beginnings(6) + ((0, 0),), 5)
        self.assertIsNone(error_of(fewest, 6, beginnings(6)[1:], 5))
        for width in (6, 7, 8):
            self.assertIsNone(error_of(fewest, width, beginnings(width), 5))

    def test_no_depth(self):
        for wrong in NO_NUMBERS + DEEP + (-1, -2, 21, 22, BIG, -BIG):
            self.check(NoDepth, 1, ((0, 0),), wrong)
            self.check(NoDepth, 4, ((0, 3),), wrong)
            self.check(NoDepth, 8, beginnings(8), wrong)
        for depth in (0, 20):
            self.assertIsNone(error_of(fewest, 1, ((0, 0),), depth))

    def test_too_shallow(self):
        for width in range(1, 7):
            for first, last in windows_of(width):
                for depth in range(5):
                    if last - first + 1 > 2 ** depth:
                        self.check(TooShallow, width, ((first, last),), depth)
                        self.check(TooShallow, width, ((0, 0), (first, last), (0, 0)), depth)
                    else:
                        self.assertIsNone(error_of(fewest, width, ((first, last),), depth))
        self.check(TooShallow, 8, beginnings(8), 2)
        self.assertIsNone(error_of(fewest, 8, beginnings(8), 3))
        self.check(TooShallow, 5, beginnings(5), 2)
        self.assertIsNone(error_of(fewest, 4, beginnings(4), 2))

    def test_the_order(self):
        self.check(NoWidth, 9, ((0, 99),) * 6, 21)
        self.check(NoWindow, 7, ((0, 99),) * 6, 21)
        self.check(TooMany, 7, ((0, 6),) * 6, 21)
        self.check(TooMany, 7, ((0, 6),) * 6, 0)
        self.check(TooMany, 6, ((0, 5),) * 6, None)
        self.check(NoDepth, 6, ((0, 5),), -1)
        self.check(NoDepth, 6, ((0, 5),), False)


if __name__ == "__main__":
    unittest.main()
