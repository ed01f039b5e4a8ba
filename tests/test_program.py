"""[1] to [8] over the whole program: all ways of telling against each other and against joining one by one."""

import random
import unittest

from sumnets.behind import behind
from sumnets.bounds import sum_holds, sum_paper
from sumnets.building import built, built_holds
from sumnets.cases import cases_holds
from sumnets.desk import Desk
from sumnets.errors import Bracketed, NoJoining, NotBeside
from sumnets.fewest import fewest
from sumnets.joinings import joined, look_at_joining
from sumnets.kept import Kept
from sumnets.keptparts import KeptParts
from sumnets.least import fewest_rounds, prices_hold
from sumnets.levels import depth_of, least_depth, levels_hold, levels_of, longest_way, way_holds
from sumnets.merged import merged
from sumnets.parting import parted
from sumnets.rounds import rounds_hold, rounds_of, rounds_told
from sumnets.rows import beginnings, beginnings_told, row_joined, window_told
from sumnets.spans import spans_hold, spans_of, tells, tells_beginnings
from sumnets.tables import clash_holds, clash_of
from sumnets.telling import all_told, told
from sumnets.texts import net_read, net_shown
from sumnets.trimmed import trimmed
from sumnets.turning import turned_net
from sumnets.windows import moving, windows_net
from tests.nets_made import random_beginnings, rule_nets
from tests.samples import (
    BRACKETED, JOININGS, NETS_NOT_BESIDE, error_of, joining_depth, random_paper, random_right_net, random_row)


def turned_joining(joining):
    """The joining turned, where that is one; else None."""
    return ("turned", joining) if joining_depth(joining) < 4 else None


def by_changes(dice, net, joining, row, things):
    """A kept net that is brought to the row by changes, place by place, from another one."""
    kept = Kept(net, joining, random_row(dice, things, net[0])).copied()
    for place in dice.sample(range(net[0]), net[0]):
        kept.change(place, row[place])
    return kept


def all_ways(dice, net, joining, row, things):
    """What a right net tells of a row, in each way there is."""
    yield told(net, joining, row)
    yield told(trimmed(net), joining, row)
    yield told(merged(net), joining, row)
    yield told(trimmed(merged(net)), joining, row)
    yield told(net_read(net_shown(net)), joining, row)
    yield told(turned_net(turned_net(net)), joining, row)
    if turned_joining(joining):
        yield told(turned_net(net), turned_joining(joining), row[::-1])[::-1]
    yield Kept(net, joining, row).told()
    yield Kept(net, joining, row).copied().told()
    yield by_changes(dice, net, joining, row, things).told()
    for hands in (1, 2, 3, 1000):
        yield rounds_told(net, joining, row, rounds_of(net, hands))
    if len(net[1]) <= 9:
        yield rounds_told(net, joining, row, fewest_rounds(net, 2)[0])
    yield told(windows_net(net[0], tuple(window_of(net, end) for end in net[2])), joining, row)


def window_of(net, number):
    """The span of a thing or a knot."""
    return (number, number) if number < net[0] else spans_of(net)[number - net[0]]


class AllWays(unittest.TestCase):
    def test_of_windows(self):
        dice = random.Random(200)
        for joining, things in JOININGS:
            for trial in range(6):
                net, spans, windows = random_right_net(dice, dice.randrange(1, 10), dice.randrange(14))
                row = random_row(dice, things, net[0])
                self.assertTrue(tells(net, windows))
                one_by_one = [window_told(joining, row, window) for window in windows]
                for values in all_ways(dice, net, joining, row, things):
                    self.assertEqual(values, one_by_one)
                self.assertEqual(all_told(net, joining, row), [window_told(joining, row, span) for span in spans])
                self.assertEqual(Kept(net, joining, row).knots_told(), all_told(net, joining, row))

    def test_of_beginnings(self):
        dice = random.Random(201)
        for joining, things in JOININGS:
            nets = [dice.choice(rule_nets(width)) for width in (1, 2, 5, 8)]
            nets += [random_beginnings(dice, dice.randrange(1, 8)) for trial in range(3)]
            for net in nets:
                row = random_row(dice, things, net[0])
                one_by_one = beginnings_told(joining, row)
                for values in all_ways(dice, net, joining, row, things):
                    self.assertEqual(values, one_by_one)
                self.assertEqual(told(parted(net, ()), joining, row), one_by_one)
                if joining_depth(joining) < 4:
                    self.assertEqual(KeptParts(net, joining, row, ()).told(), one_by_one)

    def test_of_parts(self):
        dice = random.Random(202)
        for joining, things in JOININGS:
            for trial in range(5):
                net = random_beginnings(dice, dice.randrange(1, 8))
                width = net[0]
                begins = tuple(sorted(dice.sample(range(1, width), dice.randrange(width))))
                row = random_row(dice, things, width)
                starts = [max((0,) + begins[:sum(begin <= place for begin in begins)]) for place in range(width)]
                one_by_one = [row_joined(joining, row[start:place + 1]) for place, start in enumerate(starts)]
                for values in all_ways(dice, parted(net, begins), joining, row, things):
                    self.assertEqual(values, one_by_one)
                if joining_depth(joining) < 4:
                    marking = ("marked", joining)
                    marked = tuple((int(place in begins), thing) for place, thing in enumerate(row))
                    others = [(mark, thing) for mark in (0, 1) for thing in things]
                    for values in all_ways(dice, net, marking, marked, others):
                        self.assertEqual([thing for mark, thing in values], one_by_one)
                    kept = KeptParts(net, joining, random_row(dice, things, width), ())
                    for place in range(width):
                        kept.change(place, row[place])
                    for place in begins:
                        kept.begin(place)
                    self.assertEqual(kept.told(), one_by_one)
                    self.assertEqual(kept.copied().told(), one_by_one)

    def test_from_the_back(self):
        dice = random.Random(203)
        for joining, things in JOININGS:
            for net in (random_beginnings(dice, 6), dice.choice(rule_nets(5))):
                row = random_row(dice, things, net[0])
                one_by_one = [row_joined(joining, row[place:]) for place in range(net[0])]
                for values in all_ways(dice, turned_net(net), joining, row, things):
                    self.assertEqual(values, one_by_one)

    def test_one_behind_another(self):
        dice = random.Random(204)
        for joining, things in JOININGS:
            net = behind(random_beginnings(dice, dice.randrange(1, 5)), random_beginnings(dice, dice.randrange(1, 5)))
            row = random_row(dice, things, net[0])
            for values in all_ways(dice, net, joining, row, things):
                self.assertEqual(values, beginnings_told(joining, row))

    def test_moving_windows(self):
        dice = random.Random(205)
        for joining, things in JOININGS:
            width = dice.randrange(1, 10)
            size = dice.randrange(1, width + 1)
            row = random_row(dice, things, width)
            one_by_one = [row_joined(joining, row[first:first + size]) for first in range(width - size + 1)]
            for values in all_ways(dice, moving(width, size), joining, row, things):
                self.assertEqual(values, one_by_one)

    def test_at_the_desk(self):
        dice = random.Random(206)
        for word in ("plus", "least", "greatest", "first", "last"):
            desk = Desk()
            desk.say("rule a pairs 9")
            desk.say("rule b spared 7 1")
            desk.say("behind c a b")
            desk.say("turn d c")
            row = tuple(dice.randrange(-99, 100) for place in range(16))
            said = desk.say(f"told c {word} " + " ".join(map(str, row)))
            self.assertEqual([int(one) for one in said.split(" ")], beginnings_told((word,), row))
            said = desk.say(f"told d {word} " + " ".join(map(str, row)))
            self.assertEqual(
                [int(one) for one in said.split(" ")], [row_joined((word,), row[place:]) for place in range(16)])


class WhatIsRefused(unittest.TestCase):
    def test_a_knot_whose_two_do_not_lie_side_by_side(self):
        for net, knot in NETS_NOT_BESIDE:
            row = (1,) * net[0]
            again = net_read(net_shown(net))
            for call in (
                    lambda: spans_of(net), lambda: told(net, ("plus",), row), lambda: all_told(net, ("plus",), row),
                    lambda: merged(net), lambda: Kept(net, ("plus",), row), lambda: parted(net, ()),
                    lambda: KeptParts(net, ("plus",), row, ()), lambda: spans_of(turned_net(net)),
                    lambda: rounds_told(net, ("plus",), row, rounds_of(net, 3)), lambda: sum_paper(net),
                    lambda: behind(net, net), lambda: told(again, ("plus",), row)):
                error = error_of(call)
                self.assertIs(type(error), NotBeside)
                self.assertEqual(error.knot, knot)
            self.assertIs(tells(net, beginnings(net[0])), False)
            self.assertIs(tells_beginnings(net), False)

    def test_a_table_that_minds_brackets_is_never_joined_by(self):
        net = (2, ((0, 1),), (0, 2))
        for joining, clash, thing in BRACKETED:
            row = (thing, thing)
            calls = [
                lambda: look_at_joining(joining), lambda: joined(joining, thing, thing),
                lambda: row_joined(joining, row), lambda: beginnings_told(joining, row),
                lambda: window_told(joining, row, (0, 0)), lambda: told(net, joining, row),
                lambda: all_told(net, joining, row), lambda: Kept(net, joining, row),
                lambda: rounds_told(net, joining, row, ((2,),))]
            if joining_depth(joining) < 4:
                calls.append(lambda: KeptParts(net, joining, row, ()))
            else:
                self.assertIs(type(error_of(KeptParts, net, joining, row, ())), NoJoining)
            for call in calls:
                error = error_of(call)
                self.assertIs(type(error), Bracketed)
                self.assertEqual((error.one, error.two, error.three), clash)


class Papers(unittest.TestCase):
    def test_what_is_told_with_a_paper_its_checker_lets_by(self):
        dice = random.Random(207)
        for trial in range(60):
            paper = random_paper(dice, dice.randrange(1, 9), 3)
            net = built(paper)
            self.assertTrue(built_holds(paper, net))
            self.assertTrue(sum_holds(net, sum_paper(net)))
            self.assertTrue(spans_hold(net, tuple(spans_of(net))))
            self.assertTrue(levels_hold(net, tuple(levels_of(net))))
            self.assertTrue(way_holds(net, longest_way(net)))
            self.assertGreaterEqual(len(net[1]) + depth_of(net), 2 * net[0] - 2)
            for hands in (1, 2, 3):
                self.assertTrue(rounds_hold(net, hands, rounds_of(net, hands)))
                if len(net[1]) <= 9:
                    rounds, prices = fewest_rounds(net, hands)
                    self.assertTrue(rounds_hold(net, hands, rounds))
                    self.assertTrue(prices_hold(net, hands, len(rounds), prices))

    def test_nets_that_can_not_be_bettered(self):
        for width in range(1, 7):
            depth = least_depth(width)
            net, tree = fewest(width, beginnings(width), depth)
            self.assertTrue(tells_beginnings(net))
            self.assertTrue(cases_holds(width, beginnings(width), depth, len(net[1]), tree))
            for other in rule_nets(width):
                if depth_of(other) <= depth:
                    self.assertGreaterEqual(len(other[1]), len(net[1]))

    def test_no_net_is_less_deep_than_its_windows(self):
        dice = random.Random(208)
        for trial in range(100):
            net, spans, windows = random_right_net(dice, dice.randrange(1, 10), dice.randrange(14))
            for first, last in windows:
                self.assertGreaterEqual(depth_of(net), least_depth(last - first + 1))

    def test_tables(self):
        for joining, clash, thing in BRACKETED:
            if joining[0] == "table":
                self.assertTrue(clash_holds(joining[1], clash_of(joining[1])))


if __name__ == "__main__":
    unittest.main()
