"""[37], and [1], [2], [7] and [8] as far as rounds bear them."""

import itertools
import random
import unittest

from sumnets.errors import Bracketed, NetError, NoHands, NoJoining, NoNet, NoRounds, NoRow, NoThing, NotBeside
from sumnets.levels import depth_of
from sumnets.rounds import least_rounds, rounds_hold, rounds_of, rounds_told
from sumnets.rows import beginnings_told, window_told
from sumnets.telling import told
from tests.nets_made import random_beginnings, rule_nets
from tests.samples import (
    BIG, BRACKETED, DEEP, JOININGS, MINUS, NETS_NOT_BESIDE, NO_NUMBERS, NO_TUPLES, WRONG_NETS, all_rounds, deep_turned,
    doubling_chain, error_of, one_by_one_net, random_net, random_right_net, random_row, stepped_net)

NET = (4, ((0, 1), (2, 3), (4, 2), (4, 5)), (0, 4, 6, 7))
ROUNDS = ((4, 5), (6, 7))
APART = (2, ((1, 0),), (2,))
WIDE = (64, tuple((place, place + 1) for place in range(63)) * 15 + ((0, 1),) * 55, (64,))
WRONG_HANDS = NO_NUMBERS + DEEP + (0, -1, 1001, 1002, BIG, -BIG)


def slow_holds(net, hands, rounds):
    """The words of the document, of a net and of tuples of numbers."""
    width, knots, ends = net
    if hands not in range(1, 1001):
        return False
    for numbers in rounds:
        if not 1 <= len(numbers) <= hands or list(numbers) != sorted(set(numbers)):
            return False
    if sorted(number for numbers in rounds for number in numbers) != list(range(width, width + len(knots))):
        return False
    turn = {number: at for at, numbers in enumerate(rounds) for number in numbers}
    for number, knot in enumerate(knots, start=width):
        for part in knot:
            if part >= width and not turn[part] < turn[number]:
                return False
    return True


def changed_rounds(net, rounds):
    """The rounds with a number or a round changed, left out, put twice, put elsewhere."""
    numbers = range(net[0] - 1, net[0] + len(net[1]) + 1)
    for at, old in enumerate(rounds):
        rest = rounds[:at] + rounds[at + 1:]
        yield rest
        for place in range(len(rounds) + 1):
            yield rest[:place] + (old,) + rest[place:]
            yield rounds[:place] + (old,) + rounds[place:]
            yield rounds[:place] + ((),) + rounds[place:]
        for changed in [old + (number,) for number in numbers] + [(number,) + old for number in numbers] + [
                old[:place] + old[place + 1:] for place in range(len(old))] + [
                old[:place] + (number,) + old[place + 1:] for place in range(len(old)) for number in numbers] + [
                old[::-1], tuple(reversed(old)) + old, ()]:
            yield rounds[:at] + (changed,) + rounds[at + 1:]
        if at > 0:
            yield rounds[:at - 1] + (rounds[at - 1] + old,) + rounds[at + 1:]
            yield rounds[:at - 1] + (tuple(sorted(rounds[at - 1] + old)),) + rounds[at + 1:]
        for place in range(1, len(old)):
            yield rounds[:at] + (old[:place], old[place:]) + rounds[at + 1:]
    yield rounds + ((),)
    yield ()


def some_nets(dice):
    """Nets, right and not."""
    nets = [net for width in (1, 2, 3, 5, 9) for net in rule_nets(width)]
    nets += [random_beginnings(dice, dice.randrange(1, 9)) for trial in range(20)]
    nets += [random_net(dice, dice.randrange(1, 9), dice.randrange(16)) for trial in range(40)]
    return nets + [net for net, knot in NETS_NOT_BESIDE] + [(1, (), (0,)), (64, (), (0,)), WIDE]


class RoundsOf(unittest.TestCase):
    def check(self, net, hands):
        rounds = rounds_of(net, hands)
        self.assertIs(type(rounds), tuple)
        self.assertTrue(slow_holds(net, hands, rounds))
        self.assertIs(rounds_hold(net, hands, rounds), True)
        self.assertLessEqual(len(rounds) * hands, len(net[1]) + (hands - 1) * depth_of(net))
        self.assertLessEqual(least_rounds(net, hands), len(rounds))
        self.assertEqual(rounds_of(net, hands), rounds)
        return rounds

    def test_by_hand(self):
        self.assertEqual(self.check((1, (), (0,)), 1), ())
        self.assertEqual(self.check((2, ((0, 1),), (2,)), 1), ((2,),))
        self.assertEqual(self.check(NET, 2), ROUNDS)
        self.assertEqual(len(self.check(NET, 1)), 4)
        self.assertEqual(len(self.check(NET, 1000)), 2)
        self.assertEqual(self.check(one_by_one_net(4), 3), ((4,), (5,), (6,)))

    def test_nets_and_hands(self):
        dice = random.Random(140)
        for net in some_nets(dice):
            for hands in (1, 2, 3, 4, 7, len(net[1]) or 1, len(net[1]) // 2 + 1, min(1000, len(net[1]) + 1), 1000):
                self.check(net, hands)

    def test_one_hand(self):
        dice = random.Random(141)
        for net in some_nets(dice):
            self.assertEqual(len(rounds_of(net, 1)), len(net[1]))

    def test_hands_enough(self):
        dice = random.Random(142)
        for net in some_nets(dice):
            self.assertEqual(len(rounds_of(net, 1000)), depth_of(net))

    def test_the_most(self):
        for net in (doubling_chain(1000), WIDE, stepped_net(64), one_by_one_net(64)):
            for hands in (1, 2, 3, 10, 999, 1000):
                self.check(net, hands)
        self.assertEqual(self.check((2, ((0, 1),) * 1000, (0,)), 1000), (tuple(range(2, 1002)),))
        self.assertEqual(len(self.check((2, ((0, 1),) * 1000, (0,)), 999)), 2)

    def test_by_rules_at_each_width(self):
        for width in range(1, 65, 9):
            for net in rule_nets(width):
                for hands in (1, 2, 3, 5, 32):
                    self.check(net, hands)

    def test_refused(self):
        for call in (rounds_of, least_rounds):
            for wrong in WRONG_NETS:
                for hands in (1, 0, None, 1001):
                    self.assertIs(type(error_of(call, wrong, hands)), NoNet)
            for net in (NET, APART, (1, (), (0,)), doubling_chain(1000)):
                for wrong in WRONG_HANDS:
                    error = error_of(call, net, wrong)
                    self.assertIs(type(error), NoHands)
                    self.assertIsInstance(error, NetError)


class LeastRounds(unittest.TestCase):
    def test_by_hand(self):
        self.assertEqual(least_rounds((1, (), (0,)), 1), 0)
        self.assertEqual(least_rounds((1, (), (0,)), 1000), 0)
        self.assertEqual([least_rounds(NET, hands) for hands in (1, 2, 3, 4, 1000)], [4, 2, 2, 2, 2])
        star = (2, ((0, 1),) * 7, (0,))
        self.assertEqual([least_rounds(star, hands) for hands in (1, 2, 3, 4, 6, 7, 8, 1000)], [7, 4, 3, 2, 2, 1, 1, 1])
        self.assertEqual([least_rounds(one_by_one_net(6), hands) for hands in (1, 2, 1000)], [5, 5, 5])
        self.assertEqual(least_rounds(doubling_chain(1000), 1000), 1000)

    def test_by_the_words(self):
        dice = random.Random(143)
        for net in some_nets(dice):
            for hands in (1, 2, 3, 10, 1000):
                shared = -(-len(net[1]) // hands)
                self.assertEqual(least_rounds(net, hands), max(shared, depth_of(net)))
                self.assertIs(type(least_rounds(net, hands)), int)

    def test_no_rounds_are_fewer(self):
        dice = random.Random(144)
        for trial in range(60):
            net = random_net(dice, dice.randrange(1, 4), dice.randrange(6))
            for hands in (1, 2, 3, 6):
                rows = all_rounds(net, hands)
                self.assertLessEqual(least_rounds(net, hands), min(map(len, rows)))
                self.assertIn(rounds_of(net, hands), rows)


class RoundsHold(unittest.TestCase):
    def test_by_hand(self):
        for good in (((4, 5), (6, 7)), ((4,), (5,), (6,), (7,)), ((5,), (4,), (7,), (6,)), ((4,), (5, 6), (7,)),
                     ((5,), (4,), (6, 7)), ((4, 5), (7,), (6,)), ((4,), (6,), (5,), (7,))):
            self.assertIs(rounds_hold(NET, 2, good), True)
            self.assertIs(rounds_hold(NET, 1000, good), True)
        self.assertIs(rounds_hold(NET, 1, ROUNDS), False)
        self.assertIs(rounds_hold(NET, 1, ((4,), (5,), (6,), (7,))), True)
        for wrong in ((), ((4, 5),), ((4, 5), (6,)), ((4, 5), (6, 7), ()), ((), (4, 5), (6, 7)), ((5, 4), (6, 7)),
                      ((4, 5), (7, 6)), ((4, 6), (5, 7)), ((6, 7), (4, 5)), ((4, 5), (6, 7), (7,)), ((4, 4), (5,)),
                      ((4, 5), (4, 6), (7,)), ((4, 5), (6, 7), (8,)), ((3,), (4, 5), (6, 7)), ((4, 5), (6, 6, 7)),
                      ((4, 5, 6, 7),), ((4, 5), (6, 7), (6, 7)), ((4,), (5, 7), (6,), ()), (4, 5, 6, 7)):
            self.assertIs(rounds_hold(NET, 2, wrong), False)
            self.assertIs(rounds_hold(NET, 1000, wrong), False)

    def test_no_knots(self):
        for hands in (1, 1000):
            self.assertIs(rounds_hold((1, (), (0,)), hands, ()), True)
            self.assertIs(rounds_hold((64, (), (0,)), hands, ()), True)
            for wrong in (((),), ((0,),), ((1,),), None, [], ((), ())):
                self.assertIs(rounds_hold((1, (), (0,)), hands, wrong), False)

    def test_all_rows_of_rounds_of_small_nets(self):
        # Each way to put three knots into rounds, of each number as often as it may be.
        parts = [numbers for count in range(4) for numbers in itertools.product(range(2, 5), repeat=count)]
        nets = [(2, ((0, 1), (0, 1), (0, 1)), (0,)), (2, ((0, 1), (2, 2), (3, 0)), (0,)),
                (2, ((0, 1), (1, 2), (0, 1)), (4,)), (2, ((0, 0), (1, 0), (2, 3)), (0, 4))]
        for net in nets:
            for count in range(4):
                for rounds in itertools.product(parts, repeat=count):
                    if sum(map(len, rounds)) <= 4:
                        for hands in (1, 2, 3):
                            self.assertIs(rounds_hold(net, hands, rounds), slow_holds(net, hands, rounds))

    def test_changed_rounds(self):
        dice = random.Random(145)
        seen = {True: 0, False: 0}
        nets = [NET, one_by_one_net(5), stepped_net(5)]
        nets += [random_net(dice, dice.randrange(1, 5), dice.randrange(8)) for trial in range(30)]
        for net in nets:
            for hands in (1, 2, 3, 1000):
                for rounds in changed_rounds(net, rounds_of(net, hands)):
                    good = slow_holds(net, hands, rounds)
                    seen[good] += 1
                    self.assertIs(rounds_hold(net, hands, rounds), good)
        self.assertGreater(seen[True], 200)
        self.assertGreater(seen[False], 200)

    def test_wrong_hands(self):
        for wrong in WRONG_HANDS:
            self.assertIs(rounds_hold(NET, wrong, ROUNDS), False)
            self.assertIs(rounds_hold((1, (), (0,)), wrong, ()), False)
        self.assertIs(rounds_hold((2, ((0, 1),) * 1000, (0,)), 1000, (tuple(range(2, 1002)),)), True)
        self.assertIs(rounds_hold((2, ((0, 1),) * 1000, (0,)), 999, (tuple(range(2, 1002)),)), False)

    def test_wrong_nets(self):
        for wrong in WRONG_NETS:
            for rounds in (ROUNDS, (), ((2,),), None, wrong):
                self.assertIs(rounds_hold(wrong, 2, rounds), False)

    def test_anything_for_rounds(self):
        for wrong in NO_TUPLES + DEEP + (
                list(ROUNDS), ([4, 5], [6, 7]), ([4, 5], (6, 7)), ((4, 5), [6, 7]), "4567", ("45", "67"), {4: 5},
                ({4: 0, 5: 0}, (6, 7)), (ROUNDS,), ((ROUNDS[0],), ROUNDS[1]), (None,), (ROUNDS[0], None),
                (True,), (ROUNDS[0], 6, 7), (ROUNDS[0], "67")):
            for hands in (2, 1000):
                self.assertIs(rounds_hold(NET, hands, wrong), False)

    def test_anything_for_each_number(self):
        for at, numbers in enumerate(ROUNDS):
            for place in range(2):
                for wrong in NO_NUMBERS + DEEP + (BIG, -BIG, -4, str(numbers[place]), [numbers[place]]):
                    changed = numbers[:place] + (wrong,) + numbers[place + 1:]
                    self.assertIs(rounds_hold(NET, 1000, ROUNDS[:at] + (changed,) + ROUNDS[at + 1:]), False)
        # A truth is as great as the number of this net's only knot.
        self.assertIs(rounds_hold((1, ((0, 0),), (0,)), 1, ((1,),)), True)
        self.assertIs(rounds_hold((1, ((0, 0),), (0,)), 1, ((True,),)), False)
        self.assertIs(rounds_hold((1, ((0, 0),), (0,)), True, ((1,),)), False)


class RoundsTold(unittest.TestCase):
    def test_by_hand(self):
        letters = ((1,), (2,), (3,), (4,))
        for rounds in (ROUNDS, ((4,), (5,), (6,), (7,)), ((5,), (4,), (7,), (6,))):
            self.assertEqual(rounds_told(NET, ("rows",), letters, rounds), [(1,), (1, 2), (1, 2, 3), (1, 2, 3, 4)])
        self.assertEqual(rounds_told((3, (), (2, 0, 2)), ("plus",), (5, 6, 7), ()), [7, 5, 7])

    def test_each_joining(self):
        dice = random.Random(146)
        for joining, things in JOININGS:
            for trial in range(6):
                net, spans, ends = random_right_net(dice, dice.randrange(1, 9), dice.randrange(14))
                row = random_row(dice, things, net[0])
                for hands in (1, 2, 3, 1000):
                    values = rounds_told(net, joining, row, rounds_of(net, hands))
                    self.assertIs(type(values), list)
                    self.assertEqual(values, told(net, joining, row))
                    self.assertEqual(values, [window_told(joining, row, end) for end in ends])

    def test_nets_by_rules(self):
        for width in (1, 2, 5, 17, 64):
            row = tuple((place % 7 - 3, place) for place in range(width))
            for net in rule_nets(width):
                for hands in (1, 3, 1000):
                    self.assertEqual(
                        rounds_told(net, ("lines",), row, rounds_of(net, hands)), beginnings_told(("lines",), row))

    def test_all_rounds_of_small_nets(self):
        dice = random.Random(147)
        for trial in range(25):
            net, spans, ends = random_right_net(dice, 4, 5)
            row = tuple((place,) for place in range(4))
            for rounds in all_rounds(net, 3):
                self.assertEqual(rounds_told(net, ("rows",), row, rounds), told(net, ("rows",), row))

    def test_marked_parts(self):
        row = tuple((int(place in (2, 5)), (place,)) for place in range(8))
        for net in rule_nets(8):
            values = rounds_told(net, ("marked", ("rows",)), row, rounds_of(net, 2))
            self.assertEqual(
                [thing for mark, thing in values],
                [(0,), (0, 1), (2,), (2, 3), (2, 3, 4), (5,), (5, 6), (5, 6, 7)])

    def test_the_most(self):
        net = (2, ((0, 1),) * 1000, (1001,) * 400)
        self.assertEqual(rounds_told(net, ("plus",), (1, 2), (tuple(range(2, 1002)),)), [3] * 400)
        self.assertEqual(
            rounds_told(net, ("plus",), (1, 2), tuple((number,) for number in range(2, 1002))), [3] * 400)

    def test_the_list_is_built_anew(self):
        first = rounds_told(NET, ("plus",), (1, 2, 3, 4), ROUNDS)
        first.clear()
        self.assertEqual(rounds_told(NET, ("plus",), (1, 2, 3, 4), ROUNDS), [1, 3, 6, 10])


class RoundsToldRefused(unittest.TestCase):
    def kind(self, *arguments):
        error = error_of(rounds_told, *arguments)
        self.assertIsInstance(error, NetError)
        return type(error)

    def test_no_net(self):
        for wrong in WRONG_NETS:
            self.assertIs(self.kind(wrong, ("plus",), (1, 2), ()), NoNet)
            self.assertIs(self.kind(wrong, None, None, None), NoNet)

    def test_not_beside(self):
        for net, knot in NETS_NOT_BESIDE:
            self.assertIs(self.kind(net, ("plus",), (1,) * net[0], rounds_of(net, 1000)), NotBeside)
            self.assertIs(self.kind(net, None, None, None), NotBeside)
            self.assertEqual(error_of(rounds_told, net, None, None, None).knot, knot)

    def test_no_joining(self):
        for wrong in NO_TUPLES + DEEP + (("row",), deep_turned(5), ("both", ("table", MINUS), None)):
            self.assertIs(self.kind(NET, wrong, (1, 2, 3, 4), ROUNDS), NoJoining)
            self.assertIs(self.kind(NET, wrong, None, None), NoJoining)

    def test_bracketed(self):
        for joining, clash, thing in BRACKETED:
            for things, rounds in (((thing,) * 4, ROUNDS), (None, ROUNDS), ((thing,) * 4, None)):
                error = error_of(rounds_told, NET, joining, things, rounds)
                self.assertIs(type(error), Bracketed)
                self.assertEqual((error.one, error.two, error.three), clash)

    def test_no_row(self):
        for wrong in NO_TUPLES + ((), (1,), (1, 2, 3), (1, 2, 3, 4, 5), [1, 2, 3, 4], (None,) * 3):
            self.assertIs(self.kind(NET, ("plus",), wrong, ROUNDS), NoRow)
            self.assertIs(self.kind(NET, ("plus",), wrong, None), NoRow)

    def test_no_thing(self):
        for wrong in NO_NUMBERS + DEEP:
            for place in range(4):
                things = (1,) * place + (wrong,) + (1,) * (3 - place)
                self.assertIs(self.kind(NET, ("plus",), things, ROUNDS), NoThing)
                self.assertIs(self.kind(NET, ("plus",), things, None), NoThing)

    def test_no_rounds(self):
        for wrong in NO_TUPLES + DEEP + (list(ROUNDS), ([4, 5], (6, 7)), (), ((4, 5),), ((4, 5), (7, 6)),
                                         ((4, 6), (5, 7)), ((4, 5), (6, 7), ()), ((4, 5), (6, True)), ROUNDS + ROUNDS):
            self.assertIs(self.kind(NET, ("plus",), (1, 2, 3, 4), wrong), NoRounds)
        self.assertIs(self.kind((1, (), (0,)), ("plus",), (1,), ((),)), NoRounds)

    def test_changed_rounds(self):
        for rounds in changed_rounds(NET, ROUNDS):
            error = error_of(rounds_told, NET, ("plus",), (1, 2, 3, 4), rounds)
            if slow_holds(NET, 1000, rounds):
                self.assertIsNone(error)
            else:
                self.assertIs(type(error), NoRounds)


if __name__ == "__main__":
    unittest.main()
