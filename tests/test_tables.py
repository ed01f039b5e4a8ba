"""[12], and [2] and [3] as far as they speak of tables."""

import itertools
import unittest

from sumnets.errors import NoJoining
from sumnets.tables import clash_holds, clash_of
from tests.samples import (
    BIG, CLOCK, DEEP, GREATER, LEFT, MINUS, NO_NUMBERS, NO_TUPLES, NOT_BOTH, ONE_NUMBER, TIMES, TRIANGLE, error_of)

WRONG_ROWS = NO_TUPLES + DEEP + (
    (), ((),), ((0, 0),), ((1,),), ((-1,),), ((True,),), ((False,),), ((None,),), (("0",),), (((0,),),), ([0],), (0,),
    ((0, 1), (1,)), ((0, 1), (1, 0, 0)), ((0, 1), (1, 2)), ((0, 1), (1, -1)), ((0, 1), [1, 0]), [(0, 1), (1, 0)],
    ((0, 1), (1, True)), ((0, 1), (1, BIG)), ((0, 1), "01"), ((0, 1), {0: 1, 1: 0}), ((0, 1), None),
    ((0, 1), (1, 0), (0, 1)), ((0, 0),) * 3, ((0, 1), (1, 0), ()), tuple((0,) * 7 for row in range(7)),
    tuple((0,) * 7 for row in range(6)), tuple((0,) * 6 for row in range(7)),
)


def clashes(rows):
    """All clashes, straight from the words of the document."""
    return [
        (x, y, z) for x, y, z in itertools.product(range(len(rows)), repeat=3)
        if rows[rows[x][y]][z] != rows[x][rows[y][z]]]


class ClashOf(unittest.TestCase):
    def test_tables_that_mind_no_brackets(self):
        for rows in (CLOCK, LEFT, GREATER, TIMES, TRIANGLE, ONE_NUMBER, ((0,) * 6,) * 6):
            self.assertIsNone(clash_of(rows))

    def test_told_clashes(self):
        self.assertEqual(clash_of(MINUS), (0, 0, 1))
        self.assertEqual(clash_of(NOT_BOTH), (0, 0, 1))
        self.assertEqual(clash_of(((0, 1), (0, 0))), (1, 0, 1))
        self.assertEqual(clash_of(((0, 0), (1, 0))), (1, 0, 1))
        self.assertEqual(clash_of(((0, 0, 0), (0, 0, 0), (0, 1, 0))), (2, 2, 1))

    def test_a_clash_is_a_tuple(self):
        self.assertIsInstance(clash_of(MINUS), tuple)

    def test_all_tables_of_two_numbers(self):
        for flat in itertools.product(range(2), repeat=4):
            rows = (flat[:2], flat[2:])
            self.assertEqual(clash_of(rows), (clashes(rows) or [None])[0])

    def test_many_tables_of_three_numbers(self):
        for flat in itertools.product(range(3), repeat=9):
            if sum(flat) % 7 == 0:
                rows = (flat[:3], flat[3:6], flat[6:])
                self.assertEqual(clash_of(rows), (clashes(rows) or [None])[0])

    def test_a_clash_at_the_last_numbers_of_six(self):
        rows = ((0,) * 6,) * 5 + ((0, 0, 0, 0, 1, 4),)
        self.assertEqual(clash_of(rows), (5, 5, 5))
        self.assertEqual(clashes(rows), [(5, 5, 5)])

    def test_the_order_is_by_x_then_y_then_z(self):
        rows = ((0, 0, 2), (0, 2, 1), (2, 2, 0))
        self.assertGreater(len(clashes(rows)), 3)
        self.assertEqual(clash_of(rows), min(clashes(rows)))

    def test_refused(self):
        for wrong in WRONG_ROWS:
            self.assertIs(type(error_of(clash_of, wrong)), NoJoining)

    def test_the_same_each_time(self):
        self.assertEqual(clash_of(MINUS), clash_of(MINUS))


class ClashHolds(unittest.TestCase):
    def test_just_the_clashes_hold(self):
        for rows in (MINUS, NOT_BOTH, CLOCK, LEFT, ((0, 1), (0, 0)), ((0, 0, 0), (0, 0, 0), (0, 1, 0))):
            told = clashes(rows)
            for three in itertools.product(range(-1, len(rows) + 1), repeat=3):
                self.assertIs(clash_holds(rows, three), three in told)

    def test_what_is_told_holds(self):
        for flat in itertools.product(range(2), repeat=4):
            rows = (flat[:2], flat[2:])
            clash = clash_of(rows)
            self.assertIs(clash_holds(rows, clash), clash is not None)

    def test_one_number_never_clashes(self):
        self.assertIs(clash_holds(ONE_NUMBER, (0, 0, 0)), False)

    def test_wrong_rows(self):
        for wrong in WRONG_ROWS:
            self.assertIs(clash_holds(wrong, (0, 0, 1)), False)
            self.assertIs(clash_holds(wrong, (0, 0, 0)), False)
            self.assertIs(clash_holds(wrong, None), False)

    def test_wrong_clashes(self):
        wrongs = NO_TUPLES + NO_NUMBERS + DEEP + (
            (0, 0), (0, 0, 1, 0), [0, 0, 1], (0, 0, True), (False, 0, 1), (0, False, 1), (0, 0, "1"), (0, 0, None),
            (0, 0, (1,)), (0, 0, [1]), (0, 0, {}), (0, 0, 3), (0, 0, -2), (0, 0, BIG), ((0, 0, 1),), "001")
        for wrong in wrongs:
            self.assertIs(clash_holds(MINUS, wrong), False)
        self.assertIs(clash_holds(MINUS, (0, 0, 1)), True)

    def test_both_wrong(self):
        for wrong in DEEP + NO_TUPLES:
            self.assertIs(clash_holds(wrong, wrong), False)


if __name__ == "__main__":
    unittest.main()
