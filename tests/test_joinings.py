"""[10], [11], [13], and [3] and [8] as far as they speak of joinings."""

import copy
import itertools
import unittest

from sumnets.errors import Bracketed, NetError, NoJoining, NoThing
from sumnets.joinings import is_thing, joined, look_at_joining
from tests.samples import (
    BIG, CLOCK, DEEP, GREATER, JOININGS, LEFT, MINUS, NO_NUMBERS, NO_TUPLES, NOT_BOTH, ONE_NUMBER, TRIANGLE,
    deep_turned, error_of)

PLAIN = ("rows", "plus", "least", "greatest", "first", "last", "lines")
OF_NUMBERS = ("plus", "least", "greatest", "first", "last")

WRONG_JOININGS = NO_TUPLES + DEEP + (
    (), (None,), (0,), (True,), ("",), ("row",), ("Rows",), ("rows ",), (("rows",),), (["rows"],), ({"rows": 1},),
    ["rows"], [("rows",)], {"rows": ()}, "rows", "plus", ("rows", "rows"), ("plus", 1), ("rows", None), ("rows", ()),
    ("lines", ("lines",)), ("least", ("rows",)), ("first", 0), ("last", 0), ("greatest", 0),
    ("table",), ("table", ()), ("table", ((0,),), ((0,),)), ("table", ((0,),), ("rows",)), ("table", None),
    ("table", ("rows",)), ("table", [[0]]), ("table", ([0],)), ("table", ((True,),)), ("table", ((0, 0),)),
    ("table", ((1,),)), ("table", ((-1,),)), ("table", tuple((0,) * 7 for row in range(7))), ("table", 0),
    ("table", ((0, 1), (1, 2))), ("table", ((0, 1), (1, False))),
    ("turned",), ("turned", "rows"), ("turned", None), ("turned", ["rows"]), ("turned", ("rows",), ("rows",)),
    ("turned", ()), ("turned", ("rows", 1)), ("turned", ("row",)), ("turned", ("table", ())), ("turned", 0),
    ("both",), ("both", ("rows",)), ("both", ("rows",), ("rows",), ("rows",)), ("both", ("rows",), "rows"),
    ("both", "rows", ("rows",)), ("both", (("rows",), ("rows",))), ("both", ("rows",), None), ("both", None, None),
    ("both", ("rows",), ("turned",)), ("both", ("turned",), ("rows",)), ("both", ["plus"], ("plus",)),
    ("marked",), ("marked", "rows"), ("marked", ("rows",), 1), ("marked", 1, ("rows",)), ("marked", ()),
    ("marked", ("marked",)), ("marked", ("marked", ("marked", ("marked", None)))),
)


def wrapped(joining):
    """A joining within each sort that holds others, on either side."""
    return [
        ("turned", joining), ("marked", joining), ("both", joining, ("plus",)), ("both", ("plus",), joining)]


class Forms(unittest.TestCase):
    def test_each_sort_alone(self):
        for word in PLAIN:
            self.assertIsNone(look_at_joining((word,)))
        for rows in (CLOCK, LEFT, GREATER, TRIANGLE, ONE_NUMBER):
            self.assertIsNone(look_at_joining(("table", rows)))

    def test_samples(self):
        for joining, things in JOININGS:
            self.assertIsNone(look_at_joining(joining))

    def test_each_sort_within_each_other(self):
        joinings = [(word,) for word in PLAIN] + [("table", CLOCK)]
        for depth in (2, 3, 4):
            joinings = [outer for inner in joinings for outer in wrapped(inner)]
            for joining in joinings:
                self.assertIsNone(look_at_joining(joining))
        for joining in joinings:
            for outer in wrapped(joining):
                self.assertIs(type(error_of(look_at_joining, outer)), NoJoining)

    def test_four_and_five_deep(self):
        self.assertIsNone(look_at_joining(deep_turned(4)))
        for depth in (5, 6, 40, 160):
            self.assertIs(type(error_of(look_at_joining, deep_turned(depth))), NoJoining)

    def test_tables_count_as_one_deep(self):
        three = ("turned", ("turned", ("turned", ("table", LEFT))))
        self.assertIsNone(look_at_joining(three))
        self.assertIs(type(error_of(look_at_joining, ("turned", three))), NoJoining)

    def test_the_deeper_side_of_both_counts(self):
        self.assertIsNone(look_at_joining(("both", ("plus",), deep_turned(3))))
        self.assertIsNone(look_at_joining(("both", deep_turned(3), ("plus",))))
        for joining in (("both", ("plus",), deep_turned(4)), ("both", deep_turned(4), ("plus",))):
            self.assertIs(type(error_of(look_at_joining, joining)), NoJoining)

    def test_wrong_forms(self):
        for wrong in WRONG_JOININGS:
            with self.subTest(str(wrong)[:80]):
                self.assertIs(type(error_of(look_at_joining, wrong)), NoJoining)
                self.assertIs(type(error_of(is_thing, wrong, 0)), NoJoining)
                self.assertIs(type(error_of(joined, wrong, 0, 0)), NoJoining)

    def test_wrong_forms_within_others(self):
        for wrong in WRONG_JOININGS:
            for once in wrapped(wrong):
                for joining in [once] + wrapped(once):
                    self.assertIs(type(error_of(look_at_joining, joining)), NoJoining)


class Brackets(unittest.TestCase):
    def told(self, joining):
        error = error_of(look_at_joining, joining)
        self.assertIs(type(error), Bracketed)
        self.assertIsInstance(error, NetError)
        self.assertIsInstance(error, ValueError)
        return (error.one, error.two, error.three)

    def test_a_table_alone(self):
        self.assertEqual(self.told(("table", MINUS)), (0, 0, 1))
        self.assertEqual(self.told(("table", ((0, 1), (0, 0)))), (1, 0, 1))

    def test_a_table_within(self):
        bad = ("table", ((0, 1), (0, 0)))
        for joining in wrapped(bad) + wrapped(("turned", bad)) + wrapped(("marked", ("both", ("plus",), bad))):
            self.assertEqual(self.told(joining), (1, 0, 1))

    def test_the_first_from_the_left(self):
        late = ("table", ((0, 1), (0, 0)))
        soon = ("table", NOT_BOTH)
        good = ("table", CLOCK)
        self.assertEqual(self.told(("both", late, soon)), (1, 0, 1))
        self.assertEqual(self.told(("both", soon, late)), (0, 0, 1))
        self.assertEqual(self.told(("both", good, late)), (1, 0, 1))
        self.assertEqual(self.told(("both", ("both", good, late), soon)), (1, 0, 1))
        self.assertEqual(self.told(("both", ("turned", ("marked", late)), soon)), (1, 0, 1))
        self.assertEqual(self.told(("turned", ("both", late, soon))), (1, 0, 1))

    def test_the_form_goes_first(self):
        bad = ("table", MINUS)
        for joining in (("both", bad, None), ("both", bad, ("row",)), ("both", None, bad), ("turned", bad, bad),
                        ("both", bad, deep_turned(4)), ("both", bad, ("table", ()))):
            self.assertIs(type(error_of(look_at_joining, joining)), NoJoining)


class Things(unittest.TestCase):
    def test_samples(self):
        for joining, things in JOININGS:
            for thing in things:
                self.assertIs(is_thing(joining, thing), True)

    def test_numbers(self):
        for word in OF_NUMBERS:
            for good in (0, 1, -1, BIG, -BIG):
                self.assertIs(is_thing((word,), good), True)
            for wrong in NO_NUMBERS + DEEP:
                self.assertIs(is_thing((word,), wrong), False)

    def test_rows(self):
        for good in ((), (0,), (1, 2), (BIG, -BIG), tuple(range(40)), (0,) * 2000):
            self.assertIs(is_thing(("rows",), good), True)
        for wrong in NO_TUPLES + DEEP + ((True,), (0, False), (None,), ("1",), ((),), ((1,),), ([1],), (1, {})):
            self.assertIs(is_thing(("rows",), wrong), False)

    def test_lines(self):
        for good in ((0, 0), (-1, BIG)):
            self.assertIs(is_thing(("lines",), good), True)
        wrongs = NO_TUPLES + DEEP + ((), (1,), (1, 2, 3), [1, 2], (True, 0), (0, False), (None, 1), (1, "2"), (1, (2,)))
        for wrong in wrongs:
            self.assertIs(is_thing(("lines",), wrong), False)

    def test_tables(self):
        for count in range(1, 7):
            joining = ("table", ((0,) * count,) * count)
            self.assertEqual([k for k in range(-3, 10) if is_thing(joining, k)], list(range(count)))
            for wrong in NO_NUMBERS + DEEP + (BIG, -BIG):
                self.assertIs(is_thing(joining, wrong), False)

    def test_tables_that_mind_brackets(self):
        self.assertIs(is_thing(("table", MINUS), 2), True)
        self.assertIs(is_thing(("table", MINUS), 3), False)
        self.assertIs(is_thing(("marked", ("table", MINUS)), (1, 2)), True)

    def test_turned(self):
        self.assertIs(is_thing(("turned", ("rows",)), (1, 2)), True)
        self.assertIs(is_thing(("turned", ("rows",)), 1), False)
        self.assertIs(is_thing(deep_turned(4), ()), True)

    def test_both(self):
        joining = ("both", ("plus",), ("rows",))
        self.assertIs(is_thing(joining, (1, ())), True)
        for wrong in NO_TUPLES + DEEP + (
                (), (1,), (1, (), 0), [1, ()], ((), 1), (True, ()), (1, []), (1, 1), (1, (True,)), ((1,), ())):
            self.assertIs(is_thing(joining, wrong), False)

    def test_marked(self):
        joining = ("marked", ("plus",))
        self.assertEqual([mark for mark in range(-2, 5) if is_thing(joining, (mark, 7))], [0, 1])
        for wrong in NO_TUPLES + DEEP + (
                (), (0,), (0, 1, 2), [0, 1], (True, 1), (False, 1), (0, True), (None, 1), ("0", 1), ((0,), 1),
                (1, (1,)), (BIG, 1), (1, None), (1, "7")):
            self.assertIs(is_thing(joining, wrong), False)

    def test_four_deep(self):
        joining = ("marked", ("both", ("turned", ("lines",)), ("marked", ("rows",))))
        self.assertIs(is_thing(joining, (1, ((2, 3), (0, (4,))))), True)
        for wrong in ((2, ((2, 3), (0, (4,)))), (1, ((2, True), (0, (4,)))), (1, ((2, 3), (2, (4,)))),
                      (1, ((2, 3), (0, (None,)))), (1, ((2, 3), (0, [4]))), (1, [(2, 3), (0, (4,))])):
            self.assertIs(is_thing(joining, wrong), False)


class Joined(unittest.TestCase):
    def test_rows(self):
        self.assertEqual(joined(("rows",), (1, 2), (3,)), (1, 2, 3))
        self.assertEqual(joined(("rows",), (), (3,)), (3,))
        self.assertEqual(joined(("rows",), (3,), ()), (3,))
        self.assertEqual(joined(("rows",), (), ()), ())

    def test_numbers(self):
        told = {"plus": 5, "least": -2, "greatest": 7, "first": 7, "last": -2}
        for word, number in told.items():
            self.assertEqual(joined((word,), 7, -2), number)
        told = {"plus": 5, "least": -2, "greatest": 7, "first": -2, "last": 7}
        for word, number in told.items():
            self.assertEqual(joined((word,), -2, 7), number)

    def test_many_figures(self):
        self.assertEqual(joined(("plus",), BIG, BIG), 2 * BIG)
        self.assertEqual(joined(("plus",), BIG, -BIG), 0)
        self.assertEqual(joined(("least",), BIG, -BIG), -BIG)
        self.assertEqual(joined(("greatest",), BIG, -BIG), BIG)
        self.assertEqual(joined(("lines",), (BIG, 1), (BIG, -BIG)), (BIG * BIG, 0))

    def test_lines(self):
        self.assertEqual(joined(("lines",), (2, 3), (5, 7)), (10, 22))
        self.assertEqual(joined(("lines",), (5, 7), (2, 3)), (10, 17))
        # The line (a, b) takes x to a * x + b: joined, the one is taken first.
        for a, b, c, d, x in itertools.product(range(-2, 3), repeat=5):
            both = joined(("lines",), (a, b), (c, d))
            self.assertEqual(both[0] * x + both[1], c * (a * x + b) + d)

    def test_tables(self):
        rows = ((0, 0, 0), (1, 1, 1), (2, 2, 2))
        for x, y in itertools.product(range(3), repeat=2):
            self.assertEqual(joined(("table", rows), x, y), x)
        for x, y in itertools.product(range(6), repeat=2):
            self.assertEqual(joined(("table", TRIANGLE), x, y), TRIANGLE[x][y])
        self.assertEqual(joined(("table", ONE_NUMBER), 0, 0), 0)

    def test_turned(self):
        self.assertEqual(joined(("turned", ("rows",)), (1,), (2,)), (2, 1))
        self.assertEqual(joined(("turned", ("first",)), 1, 2), 2)
        self.assertEqual(joined(("turned", ("turned", ("rows",))), (1,), (2,)), (1, 2))
        self.assertEqual(joined(deep_turned(4), (1,), (2,)), (2, 1))

    def test_both(self):
        joining = ("both", ("rows",), ("plus",))
        self.assertEqual(joined(joining, ((1,), 2), ((3,), 4)), ((1, 3), 6))
        joining = ("both", ("first",), ("last",))
        self.assertEqual(joined(joining, (1, 2), (3, 4)), (1, 4))

    def test_marked(self):
        joining = ("marked", ("rows",))
        self.assertEqual(joined(joining, (0, (1,)), (0, (2,))), (0, (1, 2)))
        self.assertEqual(joined(joining, (1, (1,)), (0, (2,))), (1, (1, 2)))
        self.assertEqual(joined(joining, (0, (1,)), (1, (2,))), (1, (2,)))
        self.assertEqual(joined(joining, (1, (1,)), (1, (2,))), (1, (2,)))

    def test_marked_and_turned(self):
        self.assertEqual(joined(("turned", ("marked", ("rows",))), (0, (1,)), (1, (2,))), (1, (2, 1)))
        self.assertEqual(joined(("marked", ("turned", ("rows",))), (1, (1,)), (0, (2,))), (1, (2, 1)))

    def test_all_kinds_of_values(self):
        for joining, things in JOININGS:
            for one, other in itertools.product(things, repeat=2):
                self.assertIs(is_thing(joining, joined(joining, one, other)), True)

    def test_brackets_do_not_matter(self):
        for joining, things in JOININGS:
            for x, y, z in itertools.product(things, repeat=3):
                left = joined(joining, joined(joining, x, y), z)
                right = joined(joining, x, joined(joining, y, z))
                self.assertEqual(left, right)

    def test_what_is_handed_in_stays(self):
        for joining, things in JOININGS:
            before = copy.deepcopy((joining, things))
            first = joined(joining, things[0], things[-1])
            self.assertEqual(joined(joining, things[0], things[-1]), first)
            self.assertEqual((joining, things), before)


class Refused(unittest.TestCase):
    def kind(self, *arguments):
        error = error_of(joined, *arguments)
        self.assertIsInstance(error, NetError)
        self.assertIsInstance(error, ValueError)
        return type(error)

    def test_no_thing(self):
        for wrong in NO_NUMBERS + DEEP:
            self.assertIs(self.kind(("plus",), wrong, 1), NoThing)
            self.assertIs(self.kind(("plus",), 1, wrong), NoThing)
            self.assertIs(self.kind(("plus",), wrong, wrong), NoThing)

    def test_no_thing_even_where_it_would_not_matter(self):
        self.assertIs(self.kind(("first",), 1, None), NoThing)
        self.assertIs(self.kind(("last",), None, 1), NoThing)
        self.assertIs(self.kind(("marked", ("plus",)), (0, None), (1, 1)), NoThing)
        self.assertIs(self.kind(("marked", ("plus",)), (2, 1), (1, 1)), NoThing)
        self.assertIs(self.kind(("table", LEFT), 0, 2), NoThing)
        self.assertIs(self.kind(("table", LEFT), 0, -1), NoThing)
        self.assertIs(self.kind(("table", LEFT), -1, 0), NoThing)
        self.assertIs(self.kind(("table", LEFT), 0, True), NoThing)

    def test_a_joining_goes_before_things(self):
        self.assertIs(self.kind(("row",), None, None), NoJoining)
        self.assertIs(self.kind(("table", MINUS), None, None), Bracketed)
        self.assertIs(self.kind(("table", MINUS), 0, 1), Bracketed)
        self.assertIs(self.kind(("turned", ("table", MINUS)), 0, 1), Bracketed)

    def test_bracketed_tells_its_three(self):
        error = error_of(joined, ("both", ("plus",), ("table", ((0, 1), (0, 0)))), (1, 0), (1, 0))
        self.assertEqual((error.one, error.two, error.three), (1, 0, 1))

    def test_lists_are_no_tuples(self):
        self.assertIs(self.kind(("rows",), [1], (1,)), NoThing)
        self.assertIs(self.kind(("lines",), (1, 2), [1, 2]), NoThing)
        self.assertIs(self.kind(["rows"], (1,), (1,)), NoJoining)


if __name__ == "__main__":
    unittest.main()
