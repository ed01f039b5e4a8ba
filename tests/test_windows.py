"""[35], and [1] and [7] as far as nets made for windows bear them."""

import random
import unittest

from sumnets.errors import NetError, NoSize, NoWidth, NoWindow
from sumnets.levels import least_depth
from sumnets.rows import beginnings, window_told
from sumnets.spans import spans_of, tells
from sumnets.telling import told
from sumnets.windows import moving, windows_net
from tests.samples import BIG, DEEP, JOININGS, NO_NUMBERS, NO_TUPLES, error_of, random_row

NO_WIDTHS = NO_NUMBERS + DEEP + (0, -1, 65, 66, BIG, -BIG)


def all_windows(width):
    return tuple((first, last) for first in range(width) for last in range(first, width))


class WindowsNet(unittest.TestCase):
    def check(self, width, windows):
        net = windows_net(width, windows)
        self.assertEqual(net[0], width)
        self.assertTrue(tells(net, windows))
        self.assertLessEqual(len(net[1]), width * least_depth(width) + len(windows))
        self.assertEqual(windows_net(width, windows), net)
        return net

    def test_one_window(self):
        for width in (1, 2, 3, 5, 8, 16, 17, 31):
            for window in all_windows(width):
                self.check(width, (window,))
        for window in all_windows(64)[::7] + ((0, 63), (63, 63), (0, 0), (31, 32), (1, 62)):
            self.check(64, (window,))

    def test_of_width_one(self):
        self.assertEqual(windows_net(1, ((0, 0),)), (1, (), (0,)))
        self.assertEqual(windows_net(1, ((0, 0),) * 400), (1, (), (0,) * 400))

    def test_all_windows(self):
        for width in range(1, 28):
            self.check(width, all_windows(width))
            self.check(width, all_windows(width)[::-1])

    def test_400_windows(self):
        dice = random.Random(120)
        for width in (1, 2, 28, 32, 33, 40, 63, 64):
            for trial in range(8):
                self.check(width, tuple(dice.choices(all_windows(width), k=400)))
            wide = sorted(all_windows(width), key=lambda window: window[0] - window[1])
            self.check(width, tuple((wide * 400)[:400]))
            self.check(width, tuple((all_windows(width) * 400)[:400]))

    def test_windows_over_the_middle(self):
        # As many as can be, none of them a knot for another one.
        for width in range(2, 65):
            middle = width // 2
            windows = [(first, last) for first in range(middle) for last in range(middle, width)]
            self.check(width, tuple(windows[:400]))
            self.check(width, tuple(windows[-400:]))

    def test_the_same_several_times(self):
        net = self.check(5, ((1, 3), (0, 4), (1, 3), (2, 2), (1, 3)))
        self.assertEqual(len(set(spans_of(net))), len(net[1]))
        self.check(64, ((3, 60),) * 400)
        self.check(2, ((0, 1),) * 400)

    def test_beginnings(self):
        for width in range(1, 65):
            self.check(width, beginnings(width))

    def test_some_windows(self):
        dice = random.Random(121)
        for trial in range(400):
            width = dice.randrange(1, 65)
            self.check(width, tuple(dice.choices(all_windows(width), k=dice.randrange(1, 30))))

    def test_what_it_tells(self):
        dice = random.Random(122)
        for joining, things in JOININGS:
            for trial in range(5):
                width = dice.randrange(1, 12)
                windows = tuple(dice.choices(all_windows(width), k=dice.randrange(1, 20)))
                row = random_row(dice, things, width)
                self.assertEqual(
                    told(windows_net(width, windows), joining, row),
                    [window_told(joining, row, window) for window in windows])

    def test_no_width(self):
        for wrong in NO_WIDTHS:
            for windows in (((0, 0),), (), None, ((0, 64),)):
                error = error_of(windows_net, wrong, windows)
                self.assertIs(type(error), NoWidth)
                self.assertIsInstance(error, NetError)

    def test_no_window(self):
        wrong_windows = NO_TUPLES + DEEP + (
            (), (0,), (0, 1, 1), [0, 1], "01", {0: 0, 1: 1}, (1, 0), (0, 4), (-1, 0), (0, BIG), (-BIG, 0), (4, 4),
            (0, True), (False, 1), (0, None), (None, 0), ("0", 1), (0, "1"), (0, (1,)), ([0], 1), ((0, 1),),
            (0, DEEP[0]), (DEEP[1], 1))
        for wrong in wrong_windows:
            for windows in ((wrong,), ((0, 1), wrong), (wrong, (0, 1)), ((0, 3),) * 399 + (wrong,)):
                error = error_of(windows_net, 4, windows)
                self.assertIs(type(error), NoWindow)
                self.assertIsInstance(error, NetError)

    def test_no_tuple_of_windows(self):
        for wrong in NO_TUPLES + DEEP + ((), [(0, 1)], {(0, 1): 0}, "((0, 1),)", (0, 1), ((0, 1),) * 401,
                                         ((0, 0),) * 2000):
            self.assertIs(type(error_of(windows_net, 4, wrong)), NoWindow)
        self.assertIs(type(error_of(windows_net, 1, ())), NoWindow)
        self.assertIs(type(error_of(windows_net, 64, ((0, 64),))), NoWindow)
        self.assertIs(type(error_of(windows_net, 1, ((0, 1),))), NoWindow)


class Moving(unittest.TestCase):
    def test_each_size_at_each_width(self):
        for width in range(1, 65):
            for size in range(1, width + 1):
                net = moving(width, size)
                self.assertEqual(net[0], width)
                self.assertTrue(tells(net, tuple((first, first + size - 1) for first in range(width - size + 1))))
                self.assertLessEqual(len(net[1]), 3 * width)

    def test_by_hand(self):
        self.assertEqual(moving(1, 1), (1, (), (0,)))
        self.assertEqual(moving(4, 1), (4, (), (0, 1, 2, 3)))
        self.assertEqual(told(moving(5, 3), ("rows",), ((1,), (2,), (3,), (4,), (5,))),
                         [(1, 2, 3), (2, 3, 4), (3, 4, 5)])
        self.assertEqual(told(moving(5, 5), ("plus",), (1, 2, 3, 4, 5)), [15])

    def test_the_same_each_time(self):
        for width, size in ((1, 1), (9, 4), (64, 17)):
            self.assertEqual(moving(width, size), moving(width, size))

    def test_what_it_tells(self):
        dice = random.Random(123)
        for joining, things in JOININGS:
            for width in (1, 2, 5, 8, 11):
                row = random_row(dice, things, width)
                for size in range(1, width + 1):
                    self.assertEqual(
                        told(moving(width, size), joining, row),
                        [window_told(joining, row, (first, first + size - 1)) for first in range(width - size + 1)])

    def test_no_width(self):
        for wrong in NO_WIDTHS:
            for size in (1, 0, None, 65, BIG):
                error = error_of(moving, wrong, size)
                self.assertIs(type(error), NoWidth)
                self.assertIsInstance(error, NetError)

    def test_no_size(self):
        for width in (1, 2, 7, 63, 64):
            for wrong in NO_NUMBERS + DEEP + (0, -1, width + 1, width + 2, 65, BIG, -BIG):
                error = error_of(moving, width, wrong)
                self.assertIs(type(error), NoSize)
                self.assertIsInstance(error, NetError)


if __name__ == "__main__":
    unittest.main()
