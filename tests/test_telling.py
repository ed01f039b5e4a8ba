"""[19], and [1], [3], [7] and [8] as far as telling bears them."""

import random
import unittest

from sumnets.errors import Bracketed, NetError, NoJoining, NoNet, NoRow, NoThing, NotBeside
from sumnets.rows import beginnings_told, window_told
from sumnets.spans import tells
from sumnets.telling import all_told, told
from tests.samples import (
    BIG, DEEP, JOININGS, MINUS, NETS_NOT_BESIDE, NO_NUMBERS, NO_TUPLES, WRONG_NETS, deep_turned, error_of,
    one_by_one_net, random_right_net, stepped_net)

NET = (4, ((0, 1), (2, 3), (4, 2), (4, 5), (1, 2)), (0, 4, 6, 7, 3))
LETTERS = ((1,), (2,), (3,), (4,))
APART = (2, ((1, 0),), (2,))


class Told(unittest.TestCase):
    def test_ordinary(self):
        self.assertEqual(told(NET, ("rows",), LETTERS), [(1,), (1, 2), (1, 2, 3), (1, 2, 3, 4), (4,)])
        self.assertEqual(all_told(NET, ("rows",), LETTERS), [(1, 2), (3, 4), (1, 2, 3), (1, 2, 3, 4), (2, 3)])
        self.assertEqual(told(NET, ("plus",), (1, 10, 100, 1000)), [1, 11, 111, 1111, 1000])
        lines = ((2, 1), (3, 0), (1, 4), (0, 9))
        self.assertEqual(told(NET, ("lines",), lines), [(2, 1), (6, 3), (6, 7), (0, 9), (0, 9)])
        self.assertEqual(told(NET, ("turned", ("rows",)), LETTERS)[3], (4, 3, 2, 1))

    def test_lists(self):
        self.assertIsInstance(told(NET, ("rows",), LETTERS), list)
        self.assertIsInstance(all_told(NET, ("rows",), LETTERS), list)

    def test_no_knots(self):
        self.assertEqual(told((1, (), (0,)), ("plus",), (5,)), [5])
        self.assertEqual(all_told((1, (), (0,)), ("plus",), (5,)), [])
        self.assertEqual(told((3, (), (2, 0, 2)), ("plus",), (5, 6, 7)), [7, 5, 7])

    def test_marked(self):
        things = ((0, (1,)), (0, (2,)), (1, (3,)), (0, (4,)))
        self.assertEqual(
            told(NET, ("marked", ("rows",)), things), [(0, (1,)), (0, (1, 2)), (1, (3,)), (1, (3, 4)), (0, (4,))])

    def test_the_most(self):
        self.assertEqual(told((2, ((0, 1),) * 1000, (1001,) * 400), ("rows",), ((1,), (2,))), [(1, 2)] * 400)
        self.assertEqual(told(one_by_one_net(64), ("plus",), (BIG,) * 64), [BIG * k for k in range(1, 65)])
        rows = tuple(tuple(range(40)) for place in range(64))
        self.assertEqual(told(stepped_net(64), ("rows",), rows)[63], tuple(range(40)) * 64)

    def test_a_net_tells_what_its_windows_come_to(self):
        dice = random.Random(9)
        for joining, things in JOININGS:
            for trial in range(12):
                net, spans, ends = random_right_net(dice, dice.randrange(1, 10), dice.randrange(14))
                row = tuple(dice.choice(things) for place in range(net[0]))
                self.assertTrue(tells(net, ends))
                self.assertEqual(told(net, joining, row), [window_told(joining, row, end) for end in ends])
                self.assertEqual(all_told(net, joining, row), [window_told(joining, row, span) for span in spans])

    def test_nets_that_tell_beginnings(self):
        dice = random.Random(10)
        for joining, things in JOININGS:
            for width in (1, 2, 3, 5, 8, 13):
                row = tuple(dice.choice(things) for place in range(width))
                for net in (one_by_one_net(width), stepped_net(width)):
                    self.assertEqual(told(net, joining, row), beginnings_told(joining, row))

    def test_lists_are_built_anew(self):
        for call in (told, all_told):
            first = call(NET, ("rows",), LETTERS)
            kept = list(first)
            first.clear()
            self.assertEqual(call(NET, ("rows",), LETTERS), kept)
        self.assertEqual(LETTERS, ((1,), (2,), (3,), (4,)))


class Refused(unittest.TestCase):
    def kind(self, net, joining, things):
        kinds = set()
        for call in (told, all_told):
            error = error_of(call, net, joining, things)
            self.assertIsInstance(error, NetError)
            kinds.add(type(error))
        self.assertEqual(len(kinds), 1)
        return kinds.pop()

    def test_no_net(self):
        for wrong in WRONG_NETS:
            self.assertIs(self.kind(wrong, ("plus",), (1, 2)), NoNet)
            self.assertIs(self.kind(wrong, None, None), NoNet)

    def test_not_beside(self):
        for net, knot in NETS_NOT_BESIDE:
            self.assertIs(self.kind(net, ("plus",), (1,) * net[0]), NotBeside)
            self.assertIs(self.kind(net, None, None), NotBeside)
            self.assertEqual(error_of(told, net, ("plus",), (1,) * net[0]).knot, knot)
            self.assertEqual(error_of(all_told, net, ("plus",), (1,) * net[0]).knot, knot)

    def test_a_needless_knot_not_beside(self):
        self.assertIs(self.kind((2, ((1, 0),), (0,)), ("plus",), (1, 2)), NotBeside)

    def test_no_joining(self):
        for wrong in NO_TUPLES + DEEP + (("row",), deep_turned(5), ("both", ("table", MINUS), None)):
            self.assertIs(self.kind(NET, wrong, LETTERS), NoJoining)
            self.assertIs(self.kind(NET, wrong, None), NoJoining)

    def test_bracketed(self):
        joining = ("marked", ("table", ((0, 1), (0, 0))))
        self.assertIs(self.kind(NET, joining, None), Bracketed)
        self.assertIs(self.kind(NET, joining, ((0, 0),) * 4), Bracketed)
        self.assertIs(self.kind((1, (), (0,)), joining, ((0, 0),)), Bracketed)
        error = error_of(told, NET, joining, ((0, 0),) * 4)
        self.assertEqual((error.one, error.two, error.three), (1, 0, 1))

    def test_no_row(self):
        for wrong in NO_TUPLES + (
                (), (1,), (1, 2, 3), (1, 2, 3, 4, 5), [1, 2, 3, 4], "1234", {0: 1, 1: 2, 2: 3, 3: 4}, ((1, 2, 3, 4),),
                (None,) * 3, (None,) * 5, (1,) * 2000):
            self.assertIs(self.kind(NET, ("plus",), wrong), NoRow)

    def test_no_thing(self):
        for wrong in NO_NUMBERS + DEEP:
            for place in range(4):
                things = (1,) * place + (wrong,) + (1,) * (3 - place)
                self.assertIs(self.kind(NET, ("plus",), things), NoThing)

    def test_no_thing_that_no_end_is_made_of(self):
        self.assertIs(self.kind((2, (), (0,)), ("plus",), (1, None)), NoThing)

    def test_the_order(self):
        self.assertIs(self.kind((2, ((1, 0),), (9,)), ("row",), None), NoNet)
        self.assertIs(self.kind(APART, ("row",), None), NotBeside)
        self.assertIs(self.kind(APART, ("table", MINUS), None), NotBeside)
        self.assertIs(self.kind(APART, ("plus",), (None, None)), NotBeside)
        self.assertIs(self.kind(NET, ("row",), (None,)), NoJoining)
        self.assertIs(self.kind(NET, ("table", MINUS), (None,)), Bracketed)
        self.assertIs(self.kind(NET, ("plus",), (None,)), NoRow)


if __name__ == "__main__":
    unittest.main()
