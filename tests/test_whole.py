"""[8]: numbers are ints, True and False are none."""

import unittest

from sumnets.whole import are_between, are_rising, are_whole, is_between, is_tuple_of, is_whole
from tests.samples import BIG, DEEP, NO_NUMBERS, NO_TUPLES


class Whole(unittest.TestCase):
    def test_numbers(self):
        for number in (0, 1, -1, 2, 10 ** 9, BIG, -BIG):
            self.assertIs(is_whole(number), True)

    def test_no_numbers(self):
        for wrong in NO_NUMBERS + DEEP:
            self.assertIs(is_whole(wrong), False)
            self.assertIs(is_between(wrong, -5, 5), False)

    def test_between(self):
        self.assertEqual([k for k in range(-9, 9) if is_between(k, -2, 3)], [-2, -1, 0, 1, 2, 3])
        self.assertIs(is_between(BIG, 0, BIG - 1), False)
        self.assertIs(is_between(BIG, 0, BIG), True)
        self.assertIs(is_between(0, 1, 0), False)

    def test_tuple_of(self):
        self.assertIs(is_tuple_of((), 0), True)
        self.assertIs(is_tuple_of((None, []), 2), True)
        self.assertIs(is_tuple_of((1, 2, 3), 2), False)
        self.assertIs(is_tuple_of((1,), 2), False)
        self.assertIs(is_tuple_of([1, 2], 2), False)
        self.assertIs(is_tuple_of("ab", 2), False)

    def test_tuples_of_numbers(self):
        for good in ((), (0,), (1, -1), (BIG,) * 2000):
            self.assertIs(are_whole(good), True)
        for wrong in NO_TUPLES + ((True,), (1, None), (1, "2"), (1, (2,)), (1, [2])) + DEEP:
            self.assertIs(are_whole(wrong), False)

    def test_tuples_of_numbers_between(self):
        for good in ((), (0,), (1, 2, 0)):
            self.assertIs(are_between(good, 0, 2), True)
        for wrong in NO_TUPLES + ((True,), (1, 3), (-1, 1), (1, "2"), (False, 1)) + DEEP:
            self.assertIs(are_between(wrong, 0, 2), False)

    def test_rising(self):
        for good in ((), (5,), (0, 1), (-3, 0, 7, BIG)):
            self.assertIs(are_rising(good), True)
        for wrong in ((0, 0), (1, 0), (0, 1, 1), (0, 2, 1), (BIG, 0), (0, 0, 1)):
            self.assertIs(are_rising(wrong), False)


if __name__ == "__main__":
    unittest.main()
