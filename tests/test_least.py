"""[41], and [2] and [7] as far as the fewest rounds and their prices bear them."""

import itertools
import random
import unittest

from sumnets.errors import NetError, NoHands, NoNet, TooMany
from sumnets.least import fewest_rounds, prices_hold
from sumnets.levels import depth_of
from sumnets.rounds import least_rounds, rounds_hold, rounds_of
from tests.nets_made import rule_nets
from tests.samples import (
    BIG, DEEP, NO_NUMBERS, NO_TUPLES, WRONG_NETS, all_rounds, doubling_chain, error_of, one_by_one_net, random_net,
    random_right_net, stepped_net)

NET = (4, ((0, 1), (2, 3), (4, 2), (4, 5)), (0, 4, 6, 7))
PRICES = (((), 2), ((4,), 2), ((5,), 2), ((4, 5), 1), ((4, 6), 2), ((4, 5, 6), 1), ((4, 5, 7), 1), ((4, 5, 6, 7), 0))
BARE = (1, (), (0,))
APART = (2, ((1, 0), (0, 0)), (2,))
STAR = (2, ((0, 1),) * 9, (0,))
# Level by level two hands need four rounds for this net, but knot 4 can be joined along with knot 5.
LOPSIDED = (2, ((0, 1), (0, 1), (0, 1), (2, 2), (3, 3), (5, 5)), (7,))
WRONG_HANDS = NO_NUMBERS + DEEP + (0, -1, 1001, 1002, BIG, -BIG)


def slow_dones(net):
    """The words of the document: all tuples of knots in which with each knot those of its two stand."""
    width, knots, ends = net
    numbers = range(width, width + len(knots))
    found = []
    for count in range(len(knots) + 1):
        for done in itertools.combinations(numbers, count):
            if all(part < width or part in done for number in done for part in knots[number - width]):
                found.append(done)
    return found


def slow_hold(net, hands, number, prices):
    """The words of the document, of a net of at most nine knots, numbers, and tuples of a tuple of numbers and one."""
    width, knots, ends = net
    if hands not in range(1, 1001) or number < 0 or any(price < 0 for done, price in prices):
        return False
    dones = slow_dones(net)
    if sorted(done for done, price in prices) != sorted(dones):
        return False
    by_done = dict(prices)
    if by_done[tuple(range(width, width + len(knots)))] != 0 or by_done[()] < number:
        return False
    for done in dones:
        for later in dones:
            more = set(later) - set(done)
            if set(done) <= set(later) and 1 <= len(more) <= hands and all(
                    part < width or part in done for other in more for part in knots[other - width]):
                if by_done[done] > 1 + by_done[later]:
                    return False
    return True


def slow_fewest(net, hands):
    """How many rounds are needed, by going on from all that can be done in one round, two rounds and so on."""
    width, knots, ends = net
    reached = {()}
    count = 0
    while tuple(range(width, width + len(knots))) not in reached:
        further = set()
        for done in reached:
            ready = [number for number, knot in enumerate(knots, start=width)
                     if number not in done and all(part < width or part in done for part in knot)]
            for many in range(1, min(hands, len(ready)) + 1):
                for numbers in itertools.combinations(ready, many):
                    further.add(tuple(sorted(done + numbers)))
        reached = further
        count += 1
    return count


def small_nets(dice):
    nets = [BARE, NET, APART, STAR, LOPSIDED, doubling_chain(9), one_by_one_net(10), stepped_net(5), (64, (), (63,))]
    nets += [net for width in (1, 2, 3, 4, 5, 6) for net in rule_nets(width) if len(net[1]) <= 9]
    nets += [random_net(dice, dice.randrange(1, 7), dice.randrange(10)) for trial in range(40)]
    return nets + [random_right_net(dice, dice.randrange(2, 7), dice.randrange(10))[0] for trial in range(20)]


class FewestRounds(unittest.TestCase):
    def check(self, net, hands):
        told = fewest_rounds(net, hands)
        self.assertIs(type(told), tuple)
        rounds, prices = told
        self.assertIs(rounds_hold(net, hands, rounds), True)
        self.assertIs(prices_hold(net, hands, len(rounds), prices), True)
        self.assertIs(prices_hold(net, hands, len(rounds) + 1, prices), False)
        self.assertLessEqual(least_rounds(net, hands), len(rounds))
        self.assertLessEqual(len(rounds), len(rounds_of(net, hands)))
        self.assertEqual(len(rounds), slow_fewest(net, hands))
        self.assertEqual(fewest_rounds(net, hands), told)
        return rounds, prices

    def test_by_hand(self):
        self.assertEqual(fewest_rounds(BARE, 1), ((), (((), 0),)))
        self.assertEqual(fewest_rounds((2, ((0, 1),), (2,)), 1)[0], ((2,),))
        rounds, prices = self.check(NET, 2)
        self.assertEqual(rounds, ((4, 5), (6, 7)))
        self.assertEqual(sorted(prices), sorted(PRICES))
        self.assertEqual([len(self.check(NET, hands)[0]) for hands in (1, 2, 3, 1000)], [4, 2, 2, 2])

    def test_fewer_than_level_by_level(self):
        self.assertEqual(len(self.check(LOPSIDED, 2)[0]), 3)
        self.assertEqual(len(rounds_of(LOPSIDED, 2)), 4)

    def test_more_than_the_least(self):
        # Two knots can't be joined in one round at the end, though two hands would be enough for all six in three.
        net = (2, ((0, 1), (2, 2), (2, 2), (2, 2), (2, 2), (2, 2)), (7,))
        self.assertEqual(len(self.check(net, 2)[0]), 4)
        self.assertEqual(least_rounds(net, 2), 3)

    def test_each_number_of_hands(self):
        dice = random.Random(170)
        for net in small_nets(dice):
            for hands in range(1, 10):
                self.check(net, hands)
        for hands in (10, 999, 1000):
            self.assertEqual(len(self.check(STAR, hands)[0]), 1)
            self.assertEqual(len(self.check(stepped_net(5), hands)[0]), 3)

    def test_against_all_rows_of_rounds(self):
        dice = random.Random(171)
        for trial in range(50):
            net = random_net(dice, dice.randrange(1, 4), dice.randrange(6))
            for hands in (1, 2, 3, 6):
                rounds = fewest_rounds(net, hands)[0]
                rows = all_rounds(net, hands)
                self.assertIn(rounds, rows)
                self.assertEqual(len(rounds), min(map(len, rows)))

    def test_one_hand_and_hands_enough(self):
        dice = random.Random(172)
        for net in small_nets(dice):
            self.assertEqual(len(fewest_rounds(net, 1)[0]), len(net[1]))
            self.assertEqual(len(fewest_rounds(net, 1000)[0]), depth_of(net))

    def test_tuples(self):
        rounds, prices = fewest_rounds(stepped_net(5), 2)
        for outer in (rounds, prices):
            self.assertIs(type(outer), tuple)
            self.assertTrue(all(type(inner) is tuple for inner in outer))
        for done, price in prices:
            self.assertIs(type(done), tuple)
            self.assertIs(type(price), int)

    def test_nine_and_ten_knots(self):
        self.assertEqual(len(self.check((2, ((0, 1),) * 9, (0,)), 4)[0]), 3)
        for net in ((2, ((0, 1),) * 10, (0,)), one_by_one_net(11), doubling_chain(10), doubling_chain(1000)):
            for hands in (1, 9, 1000):
                error = error_of(fewest_rounds, net, hands)
                self.assertIs(type(error), TooMany)
                self.assertIsInstance(error, NetError)

    def test_refused(self):
        for wrong in WRONG_NETS:
            for hands in (1, 0, None):
                self.assertIs(type(error_of(fewest_rounds, wrong, hands)), NoNet)
        for net in (NET, BARE, APART, STAR, doubling_chain(10), doubling_chain(1000)):
            for wrong in WRONG_HANDS:
                error = error_of(fewest_rounds, net, wrong)
                self.assertIs(type(error), NoHands)
                self.assertIsInstance(error, NetError)


class PricesHold(unittest.TestCase):
    def test_by_hand(self):
        for number in (0, 1, 2):
            self.assertIs(prices_hold(NET, 2, number, PRICES), True)
            self.assertIs(prices_hold(NET, 1, number, PRICES), True)
            self.assertIs(prices_hold(NET, 2, number, PRICES[::-1]), True)
        for number in (3, 4, BIG, -1, -BIG):
            self.assertIs(prices_hold(NET, 2, number, PRICES), False)
        free = tuple((done, 0) for done, price in PRICES)
        self.assertIs(prices_hold(NET, 2, 0, free), True)
        self.assertIs(prices_hold(NET, 2, 1, free), False)
        for at, (done, price) in enumerate(free):
            self.assertIs(prices_hold(NET, 2, 0, free[:at] + ((done, -1),) + free[at + 1:]), False)
        # A third hand doesn't help: knot 6 can go along with knot 5 then, but knot 7 is behind both.
        self.assertIs(prices_hold(NET, 3, 2, PRICES), True)

    def test_dear_prices(self):
        dear = tuple((done, BIG if done == () else price) for done, price in PRICES)
        self.assertIs(prices_hold(NET, 2, 0, dear), False)
        # A price that is greater than that of a done from which no round leads on to it does no harm.
        apart = (2, ((0, 1), (0, 1)), (2,))
        good = (((), 1), ((2,), 1), ((3,), 1), ((2, 3), 0))
        self.assertIs(prices_hold(apart, 2, 1, good), True)
        self.assertIs(prices_hold(apart, 1, 2, (((), 2), ((2,), 1), ((3,), 1), ((2, 3), 0))), True)
        self.assertIs(prices_hold(apart, 2, 2, (((), 2), ((2,), 1), ((3,), 1), ((2, 3), 0))), False)
        self.assertIs(prices_hold(apart, 1, 2, (((), 2), ((2,), 1), ((3,), 0), ((2, 3), 0))), False)
        self.assertIs(prices_hold(apart, 2, 1, (((), 1), ((2,), 1), ((3,), 0), ((2, 3), 0))), True)

    def test_no_knots(self):
        self.assertIs(prices_hold(BARE, 1, 0, (((), 0),)), True)
        self.assertIs(prices_hold(BARE, 1000, 0, (((), 0),)), True)
        for number, prices in ((1, (((), 0),)), (0, (((), 1),)), (1, (((), 1),)), (0, ()), (0, (((), 0), ((), 0))),
                               (0, (((0,), 0),)), (0, (((), 0), ((1,), 0)))):
            self.assertIs(prices_hold(BARE, 1, number, prices), False)

    def test_one_thing_changed(self):
        dice = random.Random(173)
        seen = {True: 0, False: 0}
        nets = [NET, BARE, APART, LOPSIDED, one_by_one_net(4), (2, ((0, 1),) * 4, (0,))]
        nets += [random_net(dice, dice.randrange(1, 4), dice.randrange(5)) for trial in range(12)]
        for net in nets:
            for hands in (1, 2, 3):
                rounds, prices = fewest_rounds(net, hands)
                for number in (len(rounds) - 1, len(rounds), len(rounds) + 1):
                    for changed in changed_prices(net, prices):
                        good = slow_hold(net, hands, number, changed)
                        seen[good] += 1
                        self.assertIs(prices_hold(net, hands, number, changed), good)
        self.assertGreater(seen[True], 200)
        self.assertGreater(seen[False], 200)

    def test_all_small_prices(self):
        for net in ((2, ((0, 1), (0, 1)), (0,)), (2, ((0, 1), (2, 0)), (0,)), (1, ((0, 0),), (1,))):
            dones = slow_dones(net)
            for worths in itertools.product(range(4), repeat=len(dones)):
                prices = tuple(zip(dones, worths))
                for hands in (1, 2):
                    for number in range(4):
                        self.assertIs(
                            prices_hold(net, hands, number, prices), slow_hold(net, hands, number, prices))

    def test_random_prices(self):
        dice = random.Random(174)
        seen = {True: 0, False: 0}
        for trial in range(3000):
            net = random_net(dice, dice.randrange(1, 4), dice.randrange(1, 4))
            prices = [(done, dice.randrange(3) if len(done) < len(net[1]) else 0) for done in slow_dones(net)]
            dice.shuffle(prices)
            hands, number = dice.randrange(1, 4), dice.randrange(3)
            good = slow_hold(net, hands, number, tuple(prices))
            seen[good] += 1
            self.assertIs(prices_hold(net, hands, number, tuple(prices)), good)
        self.assertGreater(min(seen.values()), 300)

    def test_it_shows_that_none_are_fewer(self):
        dice = random.Random(175)
        for trial in range(200):
            net = random_net(dice, dice.randrange(1, 4), dice.randrange(6))
            hands = dice.randrange(1, 4)
            needed = slow_fewest(net, hands)
            by_another = fewest_rounds(net, dice.randrange(1, 4))[1]
            for number in range(len(net[1]) + 2):
                if prices_hold(net, hands, number, by_another):
                    self.assertLessEqual(number, needed)

    def test_too_many_knots(self):
        for net in (doubling_chain(10), doubling_chain(1000), (2, ((0, 1),) * 10, (0,))):
            width, knots, ends = net
            chain = tuple(
                (tuple(range(width, width + count)), len(knots) - count) for count in range(len(knots) + 1))
            for prices in ((), (((), 0),), chain[:11]):
                self.assertIs(prices_hold(net, 1, 0, prices), False)
        chain = tuple((tuple(range(1, 1 + count)), 9 - count) for count in range(10))
        self.assertIs(prices_hold(doubling_chain(9), 1, 9, chain), True)
        chain = tuple((tuple(range(1, 1 + count)), 10 - count) for count in range(11))
        self.assertIs(prices_hold(doubling_chain(10), 1, 10, chain), False)

    def test_wrong_hands_and_numbers(self):
        for wrong in WRONG_HANDS:
            self.assertIs(prices_hold(NET, wrong, 2, PRICES), False)
            self.assertIs(prices_hold(BARE, wrong, 0, (((), 0),)), False)
        for wrong in NO_NUMBERS + DEEP + (-1, -BIG):
            self.assertIs(prices_hold(NET, 2, wrong, PRICES), False)
            self.assertIs(prices_hold(BARE, 1, wrong, (((), 0),)), False)
        self.assertIs(prices_hold(NET, 1000, 2, PRICES), True)

    def test_wrong_nets(self):
        for wrong in WRONG_NETS:
            for prices in (PRICES, (((), 0),), (), None, wrong):
                self.assertIs(prices_hold(wrong, 2, 0, prices), False)

    def test_anything_for_prices(self):
        for wrong in NO_TUPLES + DEEP + (
                list(PRICES), dict(PRICES), (PRICES,), str(PRICES), PRICES[0], ((), 2), PRICES + (None,),
                PRICES + PRICES, PRICES * 200):
            self.assertIs(prices_hold(NET, 2, 0, wrong), False)

    def test_anything_for_each_part(self):
        for at, (done, price) in enumerate(PRICES):
            others = NO_TUPLES + DEEP + (
                [done, price], (done,), (price,), (done, price, 0), (price, done), ((done, price),), {done: price})
            others += tuple((done, wrong) for wrong in NO_NUMBERS + DEEP + (-1, -BIG, str(price), [price]))
            others += tuple((wrong, price) for wrong in NO_TUPLES + DEEP + (list(done), str(done), (done,)))
            for place in range(len(done)):
                others += tuple(
                    (done[:place] + (wrong,) + done[place + 1:], price)
                    for wrong in NO_NUMBERS + DEEP + (BIG, -BIG, -4, 3, 8, 0, [done[place]]))
            for other in others:
                self.assertIs(prices_hold(NET, 2, 0, PRICES[:at] + (other,) + PRICES[at + 1:]), False)

    def test_truths(self):
        net = (1, ((0, 0),), (1,))
        self.assertIs(prices_hold(net, 1, 1, (((), 1), ((1,), 0))), True)
        self.assertIs(prices_hold(net, 1, 1, (((), 1), ((True,), 0))), False)
        self.assertIs(prices_hold(net, 1, 1, (((), True), ((1,), 0))), False)
        self.assertIs(prices_hold(net, 1, 1, (((), 1), ((1,), False))), False)
        self.assertIs(prices_hold(net, True, 1, (((), 1), ((1,), 0))), False)
        self.assertIs(prices_hold(net, 1, True, (((), 1), ((1,), 0))), False)


def changed_prices(net, prices):
    """The prices with a price or a done changed, left out, put twice, put elsewhere."""
    numbers = range(net[0] - 1, net[0] + len(net[1]) + 1)
    yield prices
    for at, (done, price) in enumerate(prices):
        rest = prices[:at] + prices[at + 1:]
        yield rest
        yield rest + ((done, price),)
        yield prices + ((done, price),)
        yield prices + ((done, price + 1),)
        for other in (price - 1, price + 1, price + 2, 0, -1, BIG):
            yield prices[:at] + ((done, other),) + prices[at + 1:]
        dones = [done + (number,) for number in numbers]
        dones += [done[:place] + done[place + 1:] for place in range(len(done))]
        dones += [done[:place] + (number,) + done[place + 1:] for place in range(len(done)) for number in numbers]
        for other in dones + [done[::-1], done + done]:
            yield prices[:at] + ((other, price),) + prices[at + 1:]
    yield ()


if __name__ == "__main__":
    unittest.main()
