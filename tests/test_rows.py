"""[9], [14], and [7] and [8] as far as they speak of rows."""

import itertools
import random
import unittest

from sumnets.errors import Bracketed, NetError, NoJoining, NoRow, NoThing, NoWindow
from sumnets.joinings import joined
from sumnets.rows import are_windows, beginnings, beginnings_told, is_window, row_joined, window_told
from tests.samples import BIG, DEEP, JOININGS, MINUS, NO_NUMBERS, NO_TUPLES, deep_turned, error_of

WRONG_WINDOWS = NO_TUPLES + DEEP + (
    (), (0,), (0, 0, 0), [0, 0], (1, 0), (2, 1), (-1, 0), (-1, -1), (0, 3), (3, 3), (0, BIG), (-BIG, 0), (True, 2),
    (0, True), (False, 0), (0, False), (None, 0), (0, None), ("0", 1), (0, "1"), ((0,), 1), (0, [1]), "00",
    {0: 0, 1: 0}, ((0, 0),))


def bracketed_any_way(joining, things):
    """All that things come to, however the brackets are put."""
    if len(things) == 1:
        return [things[0]]
    return [
        joined(joining, left, right) for cut in range(1, len(things))
        for left in bracketed_any_way(joining, things[:cut]) for right in bracketed_any_way(joining, things[cut:])]


class Beginnings(unittest.TestCase):
    def test_beginnings(self):
        self.assertEqual(beginnings(1), ((0, 0),))
        self.assertEqual(beginnings(3), ((0, 0), (0, 1), (0, 2)))

    def test_the_widest(self):
        told = beginnings(400)
        self.assertIsInstance(told, tuple)
        self.assertEqual(len(told), 400)
        self.assertEqual(told[399], (0, 399))
        self.assertEqual([last - first for first, last in told], list(range(400)))

    def test_a_little_beyond(self):
        self.assertEqual(len(beginnings(401)), 401)


class Windows(unittest.TestCase):
    def test_windows(self):
        good = [pair for pair in itertools.product(range(-2, 6), repeat=2) if is_window(pair, 3)]
        self.assertEqual(good, [(0, 0), (0, 1), (0, 2), (1, 1), (1, 2), (2, 2)])

    def test_no_windows(self):
        for wrong in WRONG_WINDOWS:
            self.assertIs(is_window(wrong, 3), False)
            self.assertIs(are_windows((wrong,), 3), False)
            self.assertIs(are_windows(((0, 1), wrong), 3), False)

    def test_tuples_of_windows(self):
        for good in ((), ((0, 0),), ((1, 2), (0, 1), (1, 2))):
            self.assertIs(are_windows(good, 3), True)
        for wrong in NO_TUPLES + DEEP + ([(0, 0)], (0, 0), ((0, 3),)):
            self.assertIs(are_windows(wrong, 3), False)


class Joined(unittest.TestCase):
    def test_ordinary_rows(self):
        self.assertEqual(row_joined(("rows",), ((1,), (), (2, 3), (4,))), (1, 2, 3, 4))
        self.assertEqual(row_joined(("plus",), (3, -4, 5)), 4)
        self.assertEqual(row_joined(("least",), (3, -4, 5)), -4)
        self.assertEqual(row_joined(("greatest",), (3, -4, 5)), 5)
        self.assertEqual(row_joined(("first",), (3, -4, 5)), 3)
        self.assertEqual(row_joined(("last",), (3, -4, 5)), 5)
        self.assertEqual(row_joined(("lines",), ((2, 1), (3, 0), (1, 4))), (6, 7))
        self.assertEqual(row_joined(("table", ((0, 0), (1, 1))), (1, 0, 0)), 1)
        self.assertEqual(row_joined(("turned", ("rows",)), ((1,), (2,), (3,))), (3, 2, 1))
        self.assertEqual(row_joined(("both", ("plus",), ("last",)), ((1, 2), (3, 4), (5, 6))), (9, 6))

    def test_marked_rows(self):
        joining = ("marked", ("rows",))
        things = ((0, (1,)), (0, (2,)), (1, (3,)), (0, (4,)), (1, (5,)))
        told = [(0, (1,)), (0, (1, 2)), (1, (3,)), (1, (3, 4)), (1, (5,))]
        self.assertEqual(beginnings_told(joining, things), told)
        self.assertEqual(row_joined(joining, things), told[-1])
        self.assertEqual(window_told(joining, things, (1, 3)), (1, (3, 4)))
        self.assertEqual(window_told(joining, things, (0, 1)), (0, (1, 2)))

    def test_beginnings_told(self):
        self.assertEqual(beginnings_told(("rows",), ((1,), (2,), (3,))), [(1,), (1, 2), (1, 2, 3)])
        self.assertEqual(beginnings_told(("turned", ("rows",)), ((1,), (2,), (3,))), [(1,), (2, 1), (3, 2, 1)])
        self.assertEqual(beginnings_told(("lines",), ((2, 1), (3, 0), (1, 4))), [(2, 1), (6, 3), (6, 7)])
        self.assertIsInstance(beginnings_told(("plus",), (1, 2)), list)

    def test_windows_told(self):
        things = ((1,), (2,), (3,), (4,))
        for first, last in itertools.combinations_with_replacement(range(4), 2):
            self.assertEqual(window_told(("rows",), things, (first, last)), tuple(range(first + 1, last + 2)))

    def test_one_thing(self):
        for joining, things in JOININGS:
            for thing in things:
                self.assertEqual(row_joined(joining, (thing,)), thing)
                self.assertEqual(beginnings_told(joining, (thing,)), [thing])
                self.assertEqual(window_told(joining, (thing,), (0, 0)), thing)

    def test_brackets_any_way_come_to_the_same(self):
        dice = random.Random(1)
        for joining, things in JOININGS:
            for length in range(1, 7):
                row = tuple(dice.choice(things) for place in range(length))
                whole = row_joined(joining, row)
                for value in bracketed_any_way(joining, row):
                    self.assertEqual(value, whole)

    def test_all_three_agree(self):
        dice = random.Random(2)
        for joining, things in JOININGS:
            row = tuple(dice.choice(things) for place in range(9))
            told = beginnings_told(joining, row)
            self.assertEqual(told, [row_joined(joining, row[:place + 1]) for place in range(9)])
            for first, last in itertools.combinations_with_replacement(range(9), 2):
                self.assertEqual(window_told(joining, row, (first, last)), row_joined(joining, row[first:last + 1]))

    def test_parts_marked_off_are_told_each_by_itself(self):
        dice = random.Random(3)
        for trial in range(50):
            marks = [dice.randrange(2) for place in range(12)]
            things = tuple((mark, (place,)) for place, mark in enumerate(marks))
            begin = 0
            for place, (mark, thing) in enumerate(beginnings_told(("marked", ("rows",)), things)):
                begin = place if marks[place] else begin
                self.assertEqual(thing, tuple(range(begin, place + 1)))
                self.assertEqual(mark, int(1 in marks[:place + 1]))

    def test_two_thousand_things(self):
        things = tuple((k % 7, k % 5) for k in range(2000))
        self.assertEqual(row_joined(("both", ("plus",), ("greatest",)), things), (sum(k % 7 for k in range(2000)), 4))
        rows = tuple((k,) for k in range(2000))
        self.assertEqual(row_joined(("rows",), rows), tuple(range(2000)))
        self.assertEqual(beginnings_told(("rows",), rows)[1999], tuple(range(2000)))
        self.assertEqual(window_told(("rows",), rows, (1998, 1999)), (1998, 1999))
        self.assertEqual(window_told(("rows",), rows, (0, 1999)), tuple(range(2000)))
        self.assertIs(type(error_of(window_told, ("rows",), rows, (0, 2000))), NoWindow)

    def test_many_figures(self):
        self.assertEqual(row_joined(("plus",), (BIG,) * 3), 3 * BIG)
        self.assertEqual(row_joined(("lines",), ((BIG, -BIG),) * 2), (BIG * BIG, -BIG * BIG - BIG))

    def test_lists_are_built_anew(self):
        things = (1, 2, 3)
        told = beginnings_told(("plus",), things)
        told[0] = None
        self.assertEqual(beginnings_told(("plus",), things), [1, 3, 6])
        self.assertEqual(things, (1, 2, 3))


class Refused(unittest.TestCase):
    calls = (row_joined, beginnings_told, lambda joining, things: window_told(joining, things, (0, 0)))

    def kinds(self, joining, things):
        errors = [error_of(call, joining, things) for call in self.calls]
        for error in errors:
            self.assertIsInstance(error, NetError)
        return {type(error) for error in errors}

    def test_no_joining(self):
        for wrong in NO_TUPLES + DEEP + (("row",), ("turned",), deep_turned(5), ("table", ())):
            self.assertEqual(self.kinds(wrong, (1, 2)), {NoJoining})
            self.assertEqual(self.kinds(wrong, None), {NoJoining})

    def test_bracketed(self):
        self.assertEqual(self.kinds(("table", MINUS), (0,)), {Bracketed})
        self.assertEqual(self.kinds(("table", MINUS), ()), {Bracketed})
        self.assertEqual(self.kinds(("turned", ("table", MINUS)), None), {Bracketed})
        error = error_of(row_joined, ("marked", ("table", MINUS)), ((0, 1),))
        self.assertEqual((error.one, error.two, error.three), (0, 0, 1))

    def test_no_row(self):
        for wrong in NO_TUPLES + ((), [1, 2], {1: 2}, "12"):
            self.assertEqual(self.kinds(("plus",), wrong), {NoRow})

    def test_no_thing(self):
        for wrong in NO_NUMBERS + DEEP:
            for things in ((wrong,), (wrong, 1), (1, wrong), (1, wrong, 2), (1,) * 50 + (wrong,)):
                self.assertEqual(self.kinds(("plus",), things), {NoThing})
        self.assertEqual(self.kinds(("first",), (1, 2, None)), {NoThing})
        self.assertEqual(self.kinds(("table", ((0,),)), (0, 0, 1)), {NoThing})
        self.assertEqual(self.kinds(("rows",), ((1,), [2])), {NoThing})
        self.assertEqual(self.kinds(("marked", ("plus",)), ((0, 1), (2, 1))), {NoThing})

    def test_no_window(self):
        for wrong in WRONG_WINDOWS:
            self.assertIs(type(error_of(window_told, ("plus",), (1, 2, 3), wrong)), NoWindow)
        self.assertIs(type(error_of(window_told, ("plus",), (1,), (0, 1))), NoWindow)

    def test_a_window_goes_last(self):
        self.assertIs(type(error_of(window_told, ("row",), (1,), None)), NoJoining)
        self.assertIs(type(error_of(window_told, ("table", MINUS), (1,), None)), Bracketed)
        self.assertIs(type(error_of(window_told, ("plus",), (), None)), NoRow)
        self.assertIs(type(error_of(window_told, ("plus",), [1], None)), NoRow)
        self.assertIs(type(error_of(window_told, ("plus",), (1, None), None)), NoThing)
        self.assertIs(type(error_of(window_told, ("plus",), (1, None), (0, 0))), NoThing)


if __name__ == "__main__":
    unittest.main()
