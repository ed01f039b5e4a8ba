"""[36], and [1], [7] and [8] as far as kept nets bear them."""

import random
import unittest

from sumnets.errors import Bracketed, NetError, NoJoining, NoNet, NoPlace, NoRow, NoThing, NotBeside
from sumnets.kept import Kept
from sumnets.rows import beginnings_told, window_told
from sumnets.spans import spans_of
from sumnets.telling import all_told, told
from tests.nets_made import random_beginnings, rule_nets
from tests.samples import (
    BIG, BRACKETED, DEEP, JOININGS, MINUS, NETS_NOT_BESIDE, NO_NUMBERS, NO_TUPLES, WRONG_NETS, deep_turned, error_of,
    one_by_one_net, random_right_net, random_row, stepped_net)

NET = (4, ((0, 1), (2, 3), (4, 2), (4, 5), (1, 2)), (0, 4, 6, 7, 3))
LETTERS = ((1,), (2,), (3,), (4,))
APART = (2, ((1, 0),), (2,))


def all_kept(kept):
    """All that a kept net tells."""
    return kept.told(), kept.knots_told(), kept.joins()


class KeptTold(unittest.TestCase):
    def check(self, kept, net, joining, things):
        self.assertEqual(kept.told(), told(net, joining, tuple(things)))
        self.assertEqual(kept.knots_told(), all_told(net, joining, tuple(things)))

    def test_ordinary(self):
        kept = Kept(NET, ("rows",), LETTERS)
        self.assertEqual(kept.told(), [(1,), (1, 2), (1, 2, 3), (1, 2, 3, 4), (4,)])
        self.assertEqual(kept.knots_told(), [(1, 2), (3, 4), (1, 2, 3), (1, 2, 3, 4), (2, 3)])
        self.assertEqual(kept.joins(), 5)
        self.assertEqual(kept.change(2, (9,)), (5, 6, 7, 8))
        self.assertEqual(kept.told(), [(1,), (1, 2), (1, 2, 9), (1, 2, 9, 4), (4,)])
        self.assertEqual(kept.knots_told(), [(1, 2), (9, 4), (1, 2, 9), (1, 2, 9, 4), (2, 9)])
        self.assertEqual(kept.joins(), 9)
        self.assertEqual(kept.change(3, ()), (5, 7))
        self.assertEqual(kept.told(), [(1,), (1, 2), (1, 2, 9), (1, 2, 9), ()])
        self.assertEqual(kept.joins(), 11)

    def test_the_very_thing_that_stood_there(self):
        kept = Kept(NET, ("plus",), (1, 10, 100, 1000))
        before = kept.told(), kept.knots_told()
        self.assertEqual(kept.change(0, 1), (4, 6, 7))
        self.assertEqual((kept.told(), kept.knots_told()), before)
        self.assertEqual(kept.joins(), 8)
        self.assertEqual(kept.change(0, 1), (4, 6, 7))
        self.assertEqual(kept.joins(), 11)

    def test_what_comes_to_the_same_is_joined_anew(self):
        # By first the knots don't change where the second thing does, by least not where it stays the greater one.
        for joining in ("first", "least"):
            kept = Kept(one_by_one_net(4), (joining,), (1, 2, 3, 4))
            self.assertEqual(kept.change(1, 5), (4, 5, 6))
            self.assertEqual(kept.joins(), 6)
            self.assertEqual(kept.change(3, 7), (6,))
            self.assertEqual(kept.joins(), 7)
            self.assertEqual(kept.told(), [1, 1, 1, 1])

    def test_no_knots(self):
        kept = Kept((1, (), (0,)), ("plus",), (5,))
        self.assertEqual(all_kept(kept), ([5], [], 0))
        self.assertEqual(kept.change(0, 6), ())
        self.assertEqual(all_kept(kept), ([6], [], 0))
        kept = Kept((3, (), (2, 0, 2)), ("plus",), (5, 6, 7))
        self.assertEqual(kept.change(2, 8), ())
        self.assertEqual(all_kept(kept), ([8, 5, 8], [], 0))

    def test_the_most(self):
        net = (2, ((0, 1),) * 1000, (1001,) * 400)
        kept = Kept(net, ("rows",), ((1,), (2,)))
        self.assertEqual(all_kept(kept), ([(1, 2)] * 400, [(1, 2)] * 1000, 1000))
        self.assertEqual(kept.change(1, (3,)), tuple(range(2, 1002)))
        self.assertEqual(all_kept(kept), ([(1, 3)] * 400, [(1, 3)] * 1000, 2000))
        kept = Kept(one_by_one_net(64), ("plus",), (BIG,) * 64)
        self.assertEqual(kept.change(63, -BIG), (126,))
        self.assertEqual(kept.told()[-1], 62 * BIG)
        rows = tuple(tuple(range(40)) for place in range(64))
        kept = Kept(stepped_net(64), ("rows",), rows)
        kept.change(0, ())
        self.assertEqual(kept.told()[63], tuple(range(40)) * 63)

    def test_each_place_of_nets_by_rules(self):
        dice = random.Random(130)
        for width in (1, 2, 3, 6, 9):
            for net in rule_nets(width):
                joining, things = dice.choice(JOININGS)
                row = list(random_row(dice, things, width))
                kept = Kept(net, joining, tuple(row))
                count = len(net[1])
                self.assertEqual(kept.joins(), count)
                spans = spans_of(net)
                for place in range(width):
                    row[place] = dice.choice(things)
                    numbers = tuple(
                        width + at for at, (first, last) in enumerate(spans) if place in range(first, last + 1))
                    self.assertEqual(kept.change(place, row[place]), numbers)
                    count += len(numbers)
                    self.assertEqual(kept.joins(), count)
                    self.check(kept, net, joining, row)
                    self.assertEqual(kept.told(), beginnings_told(joining, tuple(row)))

    def test_each_joining(self):
        dice = random.Random(131)
        for joining, things in JOININGS:
            for trial in range(6):
                net, spans, ends = random_right_net(dice, dice.randrange(1, 9), dice.randrange(14))
                row = list(random_row(dice, things, net[0]))
                kept = Kept(net, joining, tuple(row))
                count = len(spans)
                for step in range(12):
                    place = dice.randrange(net[0])
                    row[place] = dice.choice(things)
                    anew = kept.change(place, row[place])
                    self.assertIs(type(anew), tuple)
                    self.assertEqual(
                        anew, tuple(net[0] + at for at, (first, last) in enumerate(spans) if first <= place <= last))
                    count += len(anew)
                    self.assertEqual(kept.joins(), count)
                    self.check(kept, net, joining, row)
                    self.assertEqual(kept.told(), [window_told(joining, tuple(row), end) for end in ends])

    def test_needless_knots(self):
        dice = random.Random(132)
        for trial in range(30):
            net = random_beginnings(dice, dice.randrange(2, 8))
            kept = Kept(net, ("rows",), tuple((place,) for place in range(net[0])))
            kept.change(0, (9,))
            self.assertEqual(kept.told(), [(9,) + tuple(range(1, place + 1)) for place in range(net[0])])

    def test_marks_that_change(self):
        # [7]: parts marked off are told each by itself, as things and marks change.
        dice = random.Random(133)
        joining = ("marked", ("rows",))
        for trial in range(20):
            net = random_beginnings(dice, dice.randrange(1, 9))
            row = [(dice.randrange(2), (place,)) for place in range(net[0])]
            kept = Kept(net, joining, tuple(row))
            for step in range(20):
                place = dice.randrange(net[0])
                row[place] = (dice.randrange(2), (dice.randrange(100),))
                kept.change(place, row[place])
                part = ()
                for (mark, thing), (told_mark, told_thing) in zip(row, kept.told()):
                    part = thing if mark == 1 else part + thing
                    self.assertEqual(told_thing, part)

    def test_lists_are_built_anew(self):
        kept = Kept(NET, ("rows",), LETTERS)
        for call in (kept.told, kept.knots_told):
            before = call()
            self.assertIs(type(before), list)
            again = call()
            again.clear()
            again.append(None)
            self.assertEqual(call(), before)
        kept.change(0, (7,))
        self.assertEqual(before, [(1, 2), (3, 4), (1, 2, 3), (1, 2, 3, 4), (2, 3)])

    def test_two_kept_of_one_net(self):
        one, other = Kept(NET, ("rows",), LETTERS), Kept(NET, ("rows",), LETTERS)
        one.change(0, (7,))
        self.assertEqual(other.told(), told(NET, ("rows",), LETTERS))
        self.assertEqual(other.joins(), 5)


class Copied(unittest.TestCase):
    def test_ahead_of_changes(self):
        kept = Kept(NET, ("rows",), LETTERS)
        copy = kept.copied()
        self.assertIsInstance(copy, Kept)
        self.assertIsNot(copy, kept)
        self.assertEqual(all_kept(copy), all_kept(kept))
        kept.change(1, (8,))
        self.assertEqual(copy.told(), told(NET, ("rows",), LETTERS))
        self.assertEqual(copy.joins(), 5)
        before = all_kept(kept)
        copy.change(2, (9,))
        copy.change(2, (9,))
        self.assertEqual(all_kept(kept), before)
        self.assertEqual(copy.joins(), 13)
        self.assertEqual(copy.told()[3], (1, 2, 9, 4))
        self.assertEqual(kept.told()[3], (1, 8, 3, 4))

    def test_behind_changes(self):
        kept = Kept(NET, ("rows",), LETTERS)
        kept.change(1, (8,))
        kept.change(3, (5, 6))
        copy = kept.copied()
        self.assertEqual(all_kept(copy), all_kept(kept))
        self.assertEqual(copy.joins(), 11)
        self.assertEqual(copy.change(0, ()), (4, 6, 7))
        self.assertEqual(copy.told()[3], (8, 3, 5, 6))
        self.assertEqual(kept.told()[3], (1, 8, 3, 5, 6))
        self.assertEqual((kept.joins(), copy.joins()), (11, 14))

    def test_a_copy_of_a_copy(self):
        kept = Kept(NET, ("plus",), (1, 10, 100, 1000))
        kept.change(0, 2)
        copy = kept.copied()
        copy.change(1, 20)
        copy_of_it = copy.copied()
        copy_of_it.change(2, 200)
        self.assertEqual(kept.told(), [2, 12, 112, 1112, 1000])
        self.assertEqual(copy.told(), [2, 22, 122, 1122, 1000])
        self.assertEqual(copy_of_it.told(), [2, 22, 222, 1222, 1000])
        self.assertEqual((kept.joins(), copy.joins(), copy_of_it.joins()), (8, 12, 16))
        copy.change(0, 3)
        self.assertEqual(copy_of_it.told(), [2, 22, 222, 1222, 1000])

    def test_each_goes_its_own_way(self):
        dice = random.Random(134)
        for joining, things in JOININGS:
            net, spans, ends = random_right_net(dice, 5, 8)
            row = random_row(dice, things, 5)
            rows = [list(row)]
            several = [Kept(net, joining, row)]
            counts = [8]
            for step in range(30):
                which = dice.randrange(len(several))
                if dice.randrange(4) == 0 and len(several) < 6:
                    several.append(several[which].copied())
                    rows.append(list(rows[which]))
                    counts.append(counts[which])
                else:
                    place = dice.randrange(5)
                    rows[which][place] = dice.choice(things)
                    counts[which] += len(several[which].change(place, rows[which][place]))
                for kept, things_now, count in zip(several, rows, counts):
                    self.assertEqual(kept.told(), told(net, joining, tuple(things_now)))
                    self.assertEqual(kept.knots_told(), all_told(net, joining, tuple(things_now)))
                    self.assertEqual(kept.joins(), count)


class RefusedMaking(unittest.TestCase):
    def kind(self, net, joining, things):
        error = error_of(Kept, net, joining, things)
        self.assertIsInstance(error, NetError)
        return type(error)

    def test_no_net(self):
        for wrong in WRONG_NETS:
            self.assertIs(self.kind(wrong, ("plus",), (1, 2)), NoNet)
            self.assertIs(self.kind(wrong, None, None), NoNet)

    def test_not_beside(self):
        for net, knot in NETS_NOT_BESIDE:
            self.assertIs(self.kind(net, ("plus",), (1,) * net[0]), NotBeside)
            self.assertIs(self.kind(net, None, None), NotBeside)
            self.assertEqual(error_of(Kept, net, ("plus",), (1,) * net[0]).knot, knot)

    def test_no_joining(self):
        for wrong in NO_TUPLES + DEEP + (("row",), deep_turned(5), ("both", ("table", MINUS), None)):
            self.assertIs(self.kind(NET, wrong, LETTERS), NoJoining)
            self.assertIs(self.kind(NET, wrong, None), NoJoining)

    def test_bracketed(self):
        for joining, clash, thing in BRACKETED:
            for things in ((thing,) * 4, None, ()):
                error = error_of(Kept, NET, joining, things)
                self.assertIs(type(error), Bracketed)
                self.assertEqual((error.one, error.two, error.three), clash)

    def test_no_row(self):
        for wrong in NO_TUPLES + ((), (1,), (1, 2, 3), (1, 2, 3, 4, 5), [1, 2, 3, 4], "1234", ((1, 2, 3, 4),),
                                  (None,) * 3, (None,) * 5, (1,) * 2000):
            self.assertIs(self.kind(NET, ("plus",), wrong), NoRow)

    def test_no_thing(self):
        for wrong in NO_NUMBERS + DEEP:
            for place in range(4):
                self.assertIs(self.kind(NET, ("plus",), (1,) * place + (wrong,) + (1,) * (3 - place)), NoThing)

    def test_the_order(self):
        self.assertIs(self.kind(APART, ("row",), None), NotBeside)
        self.assertIs(self.kind(APART, ("table", MINUS), None), NotBeside)
        self.assertIs(self.kind(NET, ("row",), (None,)), NoJoining)
        self.assertIs(self.kind(NET, ("table", MINUS), (None,)), Bracketed)
        self.assertIs(self.kind(NET, ("plus",), (None,)), NoRow)


class RefusedChange(unittest.TestCase):
    def test_no_place(self):
        kept = Kept(NET, ("plus",), (1, 2, 3, 4))
        kept.change(2, 30)
        before = all_kept(kept)
        for wrong in NO_NUMBERS + DEEP + (-1, -4, 4, 5, 7, 64, BIG, -BIG):
            for thing in (1, None, (1,), True):
                error = error_of(kept.change, wrong, thing)
                self.assertIs(type(error), NoPlace)
                self.assertIsInstance(error, NetError)
                self.assertEqual(all_kept(kept), before)

    def test_the_first_and_the_last_place(self):
        for width in (1, 2, 5, 64):
            kept = Kept(one_by_one_net(width), ("plus",), (0,) * width)
            kept.change(0, 1)
            kept.change(width - 1, 1)
            self.assertIs(type(error_of(kept.change, width, 1)), NoPlace)
            self.assertIs(type(error_of(kept.change, -1, 1)), NoPlace)

    def test_no_thing(self):
        kept = Kept(NET, ("plus",), (1, 2, 3, 4))
        kept.change(2, 30)
        before = all_kept(kept)
        for wrong in NO_NUMBERS + DEEP:
            for place in range(4):
                error = error_of(kept.change, place, wrong)
                self.assertIs(type(error), NoThing)
                self.assertIsInstance(error, NetError)
                self.assertEqual(all_kept(kept), before)
        self.assertEqual(kept.change(0, 10), (4, 6, 7))

    def test_things_of_other_joinings(self):
        all_things = [thing for joining, things in JOININGS for thing in things]
        dice = random.Random(135)
        for joining, things in JOININGS:
            kept = Kept(NET, joining, random_row(dice, things, 4))
            before = all_kept(kept)
            for thing in all_things:
                error = error_of(Kept, NET, joining, (thing,) * 4)
                if error is not None:
                    self.assertIs(type(error), NoThing)
                    self.assertIs(type(error_of(kept.change, 3, thing)), NoThing)
                    self.assertEqual(all_kept(kept), before)

    def test_a_copy_behind_a_refusal(self):
        kept = Kept(NET, ("plus",), (1, 2, 3, 4))
        error_of(kept.change, 0, None)
        error_of(kept.change, 9, 1)
        self.assertEqual(all_kept(kept.copied()), ([1, 3, 6, 10, 4], [3, 7, 6, 10, 5], 5))


if __name__ == "__main__":
    unittest.main()
