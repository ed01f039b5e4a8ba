"""[42], and [1], [7] and [8] as far as kept parts bear them."""

import random
import unittest

from sumnets.errors import Bracketed, NetError, NoEnds, NoJoining, NoNet, NoPlace, NoRow, NoThing, NotBeside
from sumnets.keptparts import KeptParts
from sumnets.parting import parted
from sumnets.rows import row_joined
from sumnets.spans import spans_of
from sumnets.telling import told
from tests.nets_made import NO_ENDS, padded, random_beginnings, rule_nets
from tests.samples import (
    BIG, BRACKETED, DEEP, JOININGS, MINUS, NETS_NOT_BESIDE, NO_NUMBERS, NO_TUPLES, WRONG_NETS, deep_turned, error_of,
    joining_depth, one_by_one_net, random_row, stepped_net)

NET = (4, ((0, 1), (2, 3), (4, 2), (4, 5)), (0, 4, 6, 7))
LETTERS = ((1,), (2,), (3,), (4,))
APART = (2, ((0, 1), (1, 0)), (0, 2))
SHALLOW = [(joining, things) for joining, things in JOININGS if joining_depth(joining) < 4]


def all_kept(kept):
    """All that kept parts tell."""
    return kept.told(), kept.begins(), kept.parts(), kept.joins()


class Model:
    """A row and its parts, told one by one."""

    def __init__(self, net, joining, row, begins):
        self.net, self.joining, self.row, self.starts = net, joining, list(row), set(begins)
        self.count = len(net[1])

    def windows(self):
        starts = [0] + sorted(self.starts)
        return list(zip(starts, [start - 1 for start in starts[1:]] + [self.net[0] - 1]))

    def told(self):
        return [row_joined(self.joining, tuple(self.row[first:place + 1]))
                for first, last in self.windows() for place in range(first, last + 1)]

    def all_kept(self):
        parts = [(first, last, row_joined(self.joining, tuple(self.row[first:last + 1])))
                 for first, last in self.windows()]
        return self.told(), tuple(sorted(self.starts)), parts, self.count

    def anew(self, place):
        numbers = tuple(number for number, (first, last) in enumerate(spans_of(self.net), start=self.net[0])
                        if place in range(first, last + 1))
        self.count += len(numbers)
        return numbers


class KeptPartsTold(unittest.TestCase):
    def check(self, kept, model):
        self.assertEqual(all_kept(kept), model.all_kept())

    def deed(self, dice, kept, model, things):
        """One change, begin or unite, at any place that may be."""
        width = model.net[0]
        word = dice.choice(("change", "begin", "unite"))
        place = dice.randrange(width)
        if word == "change":
            model.row[place] = dice.choice(things)
            anew = kept.change(place, model.row[place])
        elif word == "begin" and place > 0 and place not in model.starts:
            model.starts.add(place)
            anew = kept.begin(place)
        elif word == "unite" and place in model.starts:
            model.starts.remove(place)
            anew = kept.unite(place)
        else:
            self.assertIs(type(error_of(getattr(kept, word), place)), NoPlace)
            return
        self.assertIs(type(anew), tuple)
        self.assertEqual(anew, model.anew(place))

    def test_by_hand(self):
        kept = KeptParts(NET, ("rows",), LETTERS, (2,))
        self.assertEqual(kept.told(), [(1,), (1, 2), (3,), (3, 4)])
        self.assertEqual(kept.begins(), (2,))
        self.assertEqual(kept.parts(), [(0, 1, (1, 2)), (2, 3, (3, 4))])
        self.assertEqual(kept.joins(), 4)
        self.assertEqual(kept.begin(1), (4, 6, 7))
        self.assertEqual(kept.told(), [(1,), (2,), (3,), (3, 4)])
        self.assertEqual(kept.parts(), [(0, 0, (1,)), (1, 1, (2,)), (2, 3, (3, 4))])
        self.assertEqual(kept.begins(), (1, 2))
        self.assertEqual(kept.joins(), 7)
        self.assertEqual(kept.unite(2), (5, 6, 7))
        self.assertEqual(kept.told(), [(1,), (2,), (2, 3), (2, 3, 4)])
        self.assertEqual(kept.begins(), (1,))
        self.assertEqual(kept.joins(), 10)
        self.assertEqual(kept.change(3, (9,)), (5, 7))
        self.assertEqual(kept.parts(), [(0, 0, (1,)), (1, 3, (2, 3, 9))])
        self.assertEqual(kept.joins(), 12)
        self.assertEqual(kept.change(1, (8,)), (4, 6, 7))
        self.assertEqual(kept.told(), [(1,), (8,), (8, 3), (8, 3, 9)])
        self.assertEqual(kept.begins(), (1,))
        self.assertEqual(kept.unite(1), (4, 6, 7))
        self.assertEqual(all_kept(kept), (
            [(1,), (1, 8), (1, 8, 3), (1, 8, 3, 9)], (), [(0, 3, (1, 8, 3, 9))], 18))

    def test_width_one(self):
        kept = KeptParts((1, (), (0,)), ("plus",), (5,), ())
        self.assertEqual(all_kept(kept), ([5], (), [(0, 0, 5)], 0))
        self.assertEqual(kept.change(0, 6), ())
        self.assertEqual(all_kept(kept), ([6], (), [(0, 0, 6)], 0))
        for place in (-1, 0, 1):
            self.assertIs(type(error_of(kept.begin, place)), NoPlace)
            self.assertIs(type(error_of(kept.unite, place)), NoPlace)

    def test_the_very_thing_that_stood_there(self):
        kept = KeptParts(NET, ("plus",), (1, 10, 100, 1000), (3,))
        self.assertEqual(kept.change(0, 1), (4, 6, 7))
        self.assertEqual(all_kept(kept), ([1, 11, 111, 1000], (3,), [(0, 2, 111), (3, 3, 1000)], 7))

    def test_kinds(self):
        kept = KeptParts(NET, ("rows",), LETTERS, (1, 3))
        self.assertIs(type(kept.told()), list)
        self.assertIs(type(kept.begins()), tuple)
        self.assertIs(type(kept.parts()), list)
        self.assertTrue(all(type(part) is tuple for part in kept.parts()))
        self.assertIs(type(kept.joins()), int)

    def test_each_place_by_each_rule(self):
        for width in (1, 2, 3, 6):
            for net in rule_nets(width):
                row = tuple((place,) for place in range(width))
                kept, model = KeptParts(net, ("rows",), row, ()), Model(net, ("rows",), row, ())
                self.check(kept, model)
                for place in list(range(1, width)) + list(range(1, width))[::-1]:
                    if place in model.starts:
                        self.assertIs(type(error_of(kept.begin, place)), NoPlace)
                        model.starts.remove(place)
                        self.assertEqual(kept.unite(place), model.anew(place))
                    else:
                        self.assertIs(type(error_of(kept.unite, place)), NoPlace)
                        model.starts.add(place)
                        self.assertEqual(kept.begin(place), model.anew(place))
                    self.check(kept, model)
                for place in range(width):
                    model.row[place] = (place + 10,)
                    self.assertEqual(kept.change(place, (place + 10,)), model.anew(place))
                    self.check(kept, model)

    def test_each_joining(self):
        dice = random.Random(180)
        for joining, things in SHALLOW:
            for trial in range(4):
                net = random_beginnings(dice, dice.randrange(1, 8))
                row = random_row(dice, things, net[0])
                begins = tuple(sorted(dice.sample(range(1, net[0]), dice.randrange(net[0]))))
                kept, model = KeptParts(net, joining, row, begins), Model(net, joining, row, begins)
                self.check(kept, model)
                for step in range(25):
                    self.deed(dice, kept, model, things)
                    self.check(kept, model)
                    self.assertEqual(kept.told(), told(parted(net, kept.begins()), joining, tuple(model.row)))

    def test_things_that_are_marked_themselves(self):
        joining = ("marked", ("marked", ("rows",)))
        row = tuple((int(place == 2), (int(place == 1), (place,))) for place in range(4))
        kept, model = KeptParts(NET, joining, row, (3,)), Model(NET, joining, row, (3,))
        self.check(kept, model)
        kept.unite(3)
        model.starts.clear()
        model.anew(3)
        self.check(kept, model)

    def test_the_most(self):
        for net in (stepped_net(64), padded(stepped_net(64), 1000), one_by_one_net(64)):
            row = tuple(tuple(range(40)) for place in range(64))
            every = tuple(range(1, 64))
            kept, model = KeptParts(net, ("rows",), row, every), Model(net, ("rows",), row, every)
            self.check(kept, model)
            for place in (1, 63, 32, 33):
                model.starts.remove(place)
                self.assertEqual(kept.unite(place), model.anew(place))
            self.check(kept, model)
        kept = KeptParts(NET, ("plus",), (BIG,) * 4, (2,))
        kept.change(3, -BIG)
        self.assertEqual(kept.told(), [BIG, 2 * BIG, BIG, 0])

    def test_lists_are_built_anew(self):
        kept = KeptParts(NET, ("rows",), LETTERS, (2,))
        for call in (kept.told, kept.parts):
            before = call()
            again = call()
            again.clear()
            self.assertEqual(call(), before)
        self.assertEqual(LETTERS, ((1,), (2,), (3,), (4,)))


class Copied(unittest.TestCase):
    def test_each_goes_its_own_way(self):
        kept = KeptParts(NET, ("rows",), LETTERS, (2,))
        copy = kept.copied()
        self.assertIsInstance(copy, KeptParts)
        self.assertEqual(all_kept(copy), all_kept(kept))
        kept.begin(1)
        self.assertEqual(copy.begins(), (2,))
        self.assertEqual(copy.joins(), 4)
        copy.unite(2)
        copy.change(0, (9,))
        self.assertEqual(copy.told(), [(9,), (9, 2), (9, 2, 3), (9, 2, 3, 4)])
        self.assertEqual(kept.told(), [(1,), (2,), (3,), (3, 4)])
        self.assertEqual((kept.joins(), copy.joins()), (7, 10))
        copy_of_it = copy.copied()
        self.assertEqual(all_kept(copy_of_it), all_kept(copy))
        copy_of_it.begin(3)
        self.assertEqual(copy.begins(), ())
        self.assertEqual(copy_of_it.parts(), [(0, 2, (9, 2, 3)), (3, 3, (4,))])
        self.assertEqual((copy.joins(), copy_of_it.joins()), (10, 12))

    def test_copies_of_copies(self):
        dice = random.Random(181)
        deeds = KeptPartsTold()
        for joining, things in SHALLOW:
            net = random_beginnings(dice, 5)
            row = random_row(dice, things, 5)
            several, models = [KeptParts(net, joining, row, (3,))], [Model(net, joining, row, (3,))]
            for step in range(30):
                which = dice.randrange(len(several))
                if dice.randrange(4) == 0 and len(several) < 5:
                    model = Model(net, joining, models[which].row, models[which].starts)
                    model.count = models[which].count
                    models.append(model)
                    several.append(several[which].copied())
                else:
                    deeds.deed(dice, several[which], models[which], things)
                for kept, model in zip(several, models):
                    self.assertEqual(all_kept(kept), model.all_kept())


class RefusedMaking(unittest.TestCase):
    def kind(self, *arguments):
        error = error_of(KeptParts, *arguments)
        self.assertIsInstance(error, NetError)
        return type(error)

    def test_no_net(self):
        for wrong in WRONG_NETS:
            self.assertIs(self.kind(wrong, ("plus",), (1, 2), ()), NoNet)
            self.assertIs(self.kind(wrong, None, None, None), NoNet)

    def test_not_beside(self):
        for net, knot in NETS_NOT_BESIDE:
            self.assertIs(self.kind(net, ("plus",), (1,) * net[0], ()), NotBeside)
            self.assertIs(self.kind(net, None, None, None), NotBeside)
            self.assertEqual(error_of(KeptParts, net, None, None, None).knot, knot)
        self.assertIs(self.kind(APART, ("plus",), (1, 2), ()), NotBeside)

    def test_no_ends(self):
        for net in NO_ENDS:
            self.assertIs(self.kind(net, ("plus",), (1,) * net[0], ()), NoEnds)
            self.assertIs(self.kind(net, None, None, None), NoEnds)

    def test_no_joining(self):
        for wrong in NO_TUPLES + DEEP + (("row",), deep_turned(5), ("both", ("table", MINUS), None)):
            self.assertIs(self.kind(NET, wrong, LETTERS, ()), NoJoining)
            self.assertIs(self.kind(NET, wrong, None, None), NoJoining)

    def test_three_and_four_deep(self):
        three, four = deep_turned(3), deep_turned(4)
        self.assertEqual(KeptParts(NET, three, LETTERS, ()).told(), told(NET, three, LETTERS))
        self.assertEqual(told(NET, four, LETTERS)[0], (1,))
        self.assertIs(self.kind(NET, four, LETTERS, ()), NoJoining)
        for joining, things in JOININGS:
            if joining_depth(joining) == 4:
                self.assertIs(self.kind(NET, joining, things[:1] * 4, ()), NoJoining)
        # Too deep already, and minding brackets.
        self.assertIs(self.kind(NET, ("turned", ("turned", ("turned", ("table", MINUS)))), (0,) * 4, ()), NoJoining)

    def test_bracketed(self):
        tried = 0
        for joining, clash, thing in BRACKETED:
            if joining_depth(joining) < 4:
                tried += 1
                for things, begins in (((thing,) * 4, ()), (None, ()), ((thing,) * 4, None)):
                    error = error_of(KeptParts, NET, joining, things, begins)
                    self.assertIs(type(error), Bracketed)
                    self.assertEqual((error.one, error.two, error.three), clash)
        self.assertGreater(tried, 3)

    def test_no_row(self):
        for wrong in NO_TUPLES + ((), (1,), (1, 2, 3), (1, 2, 3, 4, 5), [1, 2, 3, 4], "1234", (None,) * 3):
            self.assertIs(self.kind(NET, ("plus",), wrong, ()), NoRow)
            self.assertIs(self.kind(NET, ("plus",), wrong, None), NoRow)

    def test_no_thing(self):
        # With a mark it would be one of the joining that bears marks; so it is none of the joining itself.
        for wrong in NO_NUMBERS + DEEP + ((0, 1), (1, 1)):
            for place in range(4):
                things = (1,) * place + (wrong,) + (1,) * (3 - place)
                self.assertIs(self.kind(NET, ("plus",), things, ()), NoThing)
                self.assertIs(self.kind(NET, ("plus",), things, None), NoThing)

    def test_no_place(self):
        for wrong in NO_TUPLES + DEEP + ([1], {1: 2}, "1", ((1,),), (0,), (4,), (-1,), (BIG,), (1, 1), (2, 1),
                                         (1, 2, 4), (0, 1), (True,), (1, None), (1, "2"), (False, 1), (1, 2, 3, 3)):
            self.assertIs(self.kind(NET, ("plus",), (1, 2, 3, 4), wrong), NoPlace)
        for begins in ((), (1,), (3,), (1, 2, 3), (1, 3)):
            self.assertEqual(KeptParts(NET, ("plus",), (1, 2, 3, 4), begins).begins(), begins)

    def test_the_order(self):
        self.assertIs(self.kind(APART, ("row",), None, None), NotBeside)
        self.assertIs(self.kind(NO_ENDS[0], ("row",), None, None), NoEnds)
        self.assertIs(self.kind(NO_ENDS[0], ("table", MINUS), None, None), NoEnds)
        self.assertIs(self.kind(NET, ("row",), (None,), (0,)), NoJoining)
        self.assertIs(self.kind(NET, ("table", MINUS), (None,), (0,)), Bracketed)
        self.assertIs(self.kind(NET, ("plus",), (None,), (0,)), NoRow)
        self.assertIs(self.kind(NET, ("plus",), (None,) * 4, (0,)), NoThing)


class RefusedDeeds(unittest.TestCase):
    def setUp(self):
        self.kept = KeptParts(NET, ("plus",), (1, 2, 3, 4), (2,))
        self.kept.change(3, 40)
        self.before = all_kept(self.kept)

    def is_refused(self, kind, call, *arguments):
        error = error_of(call, *arguments)
        self.assertIs(type(error), kind)
        self.assertIsInstance(error, NetError)
        self.assertEqual(all_kept(self.kept), self.before)

    def test_no_place_of_change(self):
        for wrong in NO_NUMBERS + DEEP + (-1, -4, 4, 5, BIG, -BIG):
            for thing in (1, None, (0, 1)):
                self.is_refused(NoPlace, self.kept.change, wrong, thing)

    def test_no_thing_of_change(self):
        for wrong in NO_NUMBERS + DEEP + ((0, 1), (1, 1)):
            for place in range(4):
                self.is_refused(NoThing, self.kept.change, place, wrong)

    def test_no_place_of_begin_and_unite(self):
        for wrong in NO_NUMBERS + DEEP + (-1, 0, 4, 5, -2, BIG, -BIG):
            self.is_refused(NoPlace, self.kept.begin, wrong)
            self.is_refused(NoPlace, self.kept.unite, wrong)

    def test_where_a_part_begins_and_where_none_does(self):
        self.is_refused(NoPlace, self.kept.begin, 2)
        self.is_refused(NoPlace, self.kept.unite, 1)
        self.is_refused(NoPlace, self.kept.unite, 3)
        self.assertEqual(self.kept.begin(1), (4, 6, 7))
        self.assertEqual(self.kept.unite(2), (5, 6, 7))
        self.before = all_kept(self.kept)
        self.is_refused(NoPlace, self.kept.begin, 1)
        self.is_refused(NoPlace, self.kept.unite, 2)
        self.assertEqual(self.kept.begin(3), (5, 7))

    def test_a_copy_behind_a_refusal(self):
        error_of(self.kept.begin, 0)
        error_of(self.kept.change, 0, None)
        self.assertEqual(all_kept(self.kept.copied()), self.before)


if __name__ == "__main__":
    unittest.main()
