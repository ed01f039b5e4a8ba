"""[40], and [1] and [7] as far as nets made for parts bear them."""

import itertools
import random
import unittest

from sumnets.errors import NetError, NoEnds, NoNet, NoPlace, NotBeside
from sumnets.levels import depth_of
from sumnets.parting import parted
from sumnets.rows import row_joined
from sumnets.spans import spans_of, tells
from sumnets.telling import told
from tests.nets_made import NO_ENDS, padded, random_beginnings, rule_nets
from tests.samples import (
    BIG, DEEP, JOININGS, NETS_NOT_BESIDE, NO_NUMBERS, NO_TUPLES, WRONG_NETS, error_of, joining_depth, one_by_one_net,
    random_row, stepped_net)

NET = (4, ((0, 1), (2, 3), (4, 2), (4, 5)), (0, 4, 6, 7))
APART = (2, ((0, 1), (1, 0)), (0, 2))


def slow_parted(net, begins):
    """The words of the document: what each number is then, as a tuple of tuples of places, numbered at the end."""
    width, knots, ends = net
    spans = [(place, place) for place in range(width)] + spans_of(net)
    now = {place: place for place in range(width)}
    new = []
    for number, (left, right) in enumerate(knots, start=width):
        places = range(spans[right][0], spans[right][1] + 1)
        if set(places) & set(begins):
            now[number] = now[right]
        else:
            new.append((now[left], now[right]))
            now[number] = width + len(new) - 1
    return (width, tuple(new), tuple(now[end] for end in ends))


def part_windows(width, begins):
    return tuple((max([0] + [begin for begin in begins if begin <= place]), place) for place in range(width))


def all_begins(width):
    for count in range(width):
        yield from itertools.combinations(range(1, width), count)


class Parted(unittest.TestCase):
    def check(self, net, begins):
        new = parted(net, begins)
        self.assertEqual(new, slow_parted(net, begins))
        self.assertTrue(tells(new, part_windows(net[0], begins)))
        self.assertLessEqual(len(new[1]), len(net[1]))
        self.assertLessEqual(depth_of(new), depth_of(net))
        self.assertIs(type(new[1]), tuple)
        self.assertIs(type(new[2]), tuple)

    def test_by_hand(self):
        self.assertEqual(parted(NET, ()), NET)
        self.assertEqual(parted(NET, (1,)), (4, ((2, 3), (1, 2), (1, 4)), (0, 1, 5, 6)))
        self.assertEqual(parted(NET, (2,)), (4, ((0, 1), (2, 3)), (0, 4, 2, 5)))
        self.assertEqual(parted(NET, (3,)), (4, ((0, 1), (4, 2)), (0, 4, 5, 3)))
        self.assertEqual(parted(NET, (1, 3)), (4, ((1, 2),), (0, 1, 4, 3)))
        self.assertEqual(parted(NET, (1, 2, 3)), (4, (), (0, 1, 2, 3)))
        self.assertEqual(parted((1, (), (0,)), ()), (1, (), (0,)))
        self.assertEqual(parted((2, ((0, 1),), (0, 2)), (1,)), (2, (), (0, 1)))

    def test_needless_knots_stay(self):
        net = (3, ((0, 1), (1, 2), (3, 2), (0, 4)), (0, 3, 5))
        self.assertEqual(parted(net, (1,)), (3, ((1, 2), (1, 2)), (0, 1, 4)))
        self.assertEqual(parted(net, (2,)), (3, ((0, 1),), (0, 3, 2)))
        self.assertEqual(parted(net, ()), net)

    def test_all_begins_of_nets_by_rules(self):
        for width in (1, 2, 3, 5, 7):
            for net in rule_nets(width):
                for begins in all_begins(width):
                    self.check(net, begins)

    def test_nets_with_needless_knots(self):
        dice = random.Random(160)
        for trial in range(150):
            net = random_beginnings(dice, dice.randrange(1, 12))
            places = range(1, net[0])
            for begins in ((), tuple(places), tuple(sorted(dice.sample(places, dice.randrange(net[0]))))):
                self.check(net, begins)

    def test_the_most(self):
        for net in (stepped_net(64), one_by_one_net(64), padded(stepped_net(64), 1000), padded(NET, 1000)):
            places = tuple(range(1, net[0]))
            for begins in ((), places, places[:1], places[-1:], places[::2], places[1::3]):
                self.check(net, begins)

    def test_as_by_marks(self):
        dice = random.Random(161)
        tried = 0
        for joining, things in JOININGS:
            for trial in range(8):
                net = random_beginnings(dice, dice.randrange(1, 8))
                width = net[0]
                begins = tuple(sorted(dice.sample(range(1, width), dice.randrange(width))))
                row = random_row(dice, things, width)
                values = told(parted(net, begins), joining, row)
                self.assertEqual(values, [
                    row_joined(joining, row[first:last + 1]) for first, last in part_windows(width, begins)])
                if joining_depth(joining) < 4:
                    tried += 1
                    marked = tuple((1 if place in begins else 0, thing) for place, thing in enumerate(row))
                    self.assertEqual(values, [thing for mark, thing in told(net, ("marked", joining), marked)])
        self.assertGreater(tried, 100)

    def test_the_same_each_time(self):
        self.assertEqual(parted(NET, (2,)), parted(NET, (2,)))
        self.assertEqual(NET, (4, ((0, 1), (2, 3), (4, 2), (4, 5)), (0, 4, 6, 7)))


class Refused(unittest.TestCase):
    def kind(self, net, begins):
        error = error_of(parted, net, begins)
        self.assertIsInstance(error, NetError)
        return type(error)

    def test_no_net(self):
        for wrong in WRONG_NETS:
            for begins in ((), None, (0,), (1,)):
                self.assertIs(self.kind(wrong, begins), NoNet)

    def test_not_beside(self):
        for net, knot in NETS_NOT_BESIDE:
            for begins in ((), None, (0,)):
                self.assertIs(self.kind(net, begins), NotBeside)
                self.assertEqual(error_of(parted, net, begins).knot, knot)
        self.assertIs(self.kind(APART, None), NotBeside)

    def test_no_ends(self):
        for net in NO_ENDS:
            for begins in ((), None, (0,), (1,)):
                self.assertIs(self.kind(net, begins), NoEnds)

    def test_no_tuple_of_places(self):
        for wrong in NO_TUPLES + DEEP + ([1], [1, 2], {1: 2}, "12", ((1,),), ((1, 2),)):
            self.assertIs(self.kind(NET, wrong), NoPlace)

    def test_no_places(self):
        for wrong in NO_NUMBERS + DEEP + (0, -1, 4, 5, 64, BIG, -BIG):
            for begins in ((wrong,), (1, wrong), (wrong, 3), (1, wrong, 3)):
                self.assertIs(self.kind(NET, begins), NoPlace)

    def test_not_rising(self):
        for wrong in ((1, 1), (2, 1), (3, 1, 2), (1, 2, 2), (1, 2, 3, 3), (3, 2, 1), (1, 3, 2), (0, 1), (3, 4)):
            self.assertIs(self.kind(NET, wrong), NoPlace)

    def test_edges(self):
        for width in (1, 2, 5, 64):
            net = one_by_one_net(width)
            self.assertIsNone(error_of(parted, net, tuple(range(1, width))))
            for wrong in ((0,), (width,), (-1,), (width - 1, width), (0,) + tuple(range(1, width))):
                self.assertIs(self.kind(net, wrong), NoPlace)


if __name__ == "__main__":
    unittest.main()
