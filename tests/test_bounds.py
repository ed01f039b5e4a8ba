"""[30], [5], and [2] as far as it speaks of sum_holds."""

import random
import unittest

from sumnets.bounds import sum_holds, sum_paper
from sumnets.building import built
from sumnets.errors import NetError, NoEnds, NoNet, NotBeside
from sumnets.levels import depth_of, least_depth
from sumnets.spans import spans_of, tells_beginnings
from tests.nets_made import NO_ENDS, more_knots, random_beginnings, rule_nets
from tests.samples import (
    BIG, DEEP, NETS_NOT_BESIDE, NO_NUMBERS, NO_TUPLES, WRONG_NETS, error_of, one_by_one_net, random_paper, stepped_net)

# Of this net's knots 4, 5 and 7 make up the last end; 6 is another end, 8 and 9 are needless.
NET = (4, ((0, 1), (2, 3), (4, 2), (4, 5), (1, 2), (8, 3)), (0, 4, 6, 7))
PAPER = ("sum", (4, 5, 7), (7, 4), (6,))


def slow_holds(net, paper):
    """The words of the document, of a net that tells its beginnings and of a paper of tuples of numbers."""
    width, knots, ends = net
    word, tree, spine, beside = paper
    numbers = range(width, width + len(knots))
    return (
        all(number in numbers for number in tree + spine + beside)
        and len(tree) == width - 1 and len(set(tree)) == len(tree)
        and (spine == () if width == 1 else spine != () and spine[0] == ends[width - 1])
        and all(spine[at] == knots[spine[at - 1] - width][0] for at in range(1, len(spine)))
        and len(set(beside)) == len(beside) and not set(beside) & set(tree)
        and len(spine) + len(beside) >= width - 1)


def changed_numbers(numbers, most):
    """The numbers with one changed, left out, put twice, put elsewhere."""
    for at, number in enumerate(numbers):
        for other in list(range(-1, most + 2)) + [BIG]:
            yield numbers[:at] + (other,) + numbers[at + 1:]
        yield numbers[:at] + numbers[at + 1:]
        yield numbers[:at] + (number, number) + numbers[at + 1:]
        yield numbers + (number,)
        for other_at in range(len(numbers)):
            rest = list(numbers[:at] + numbers[at + 1:])
            rest.insert(other_at, number)
            yield tuple(rest)
    for other in range(-1, most + 2):
        yield numbers + (other,)
        yield (other,) + numbers
    yield ()


class SumPaper(unittest.TestCase):
    def check(self, net):
        word, tree, spine, beside = paper = sum_paper(net)
        self.assertIs(type(paper), tuple)
        self.assertEqual(word, "sum")
        for numbers in (tree, spine, beside):
            self.assertIs(type(numbers), tuple)
        width, knots, ends = net
        # The tree: the last end, and what its knots are made of.
        found = {ends[-1]} if width > 1 else set()
        while True:
            more = {side for number in found for side in knots[number - width] if side >= width} - found
            if not more:
                break
            found |= more
        self.assertEqual(tree, tuple(sorted(found)))
        self.assertEqual(len(tree), width - 1)
        spans = dict(enumerate(spans_of(net), start=width))
        from_start = [number for number in tree if spans[number][0] == 0]
        self.assertEqual(spine, tuple(sorted(from_start, key=lambda number: -spans[number][1])))
        self.assertEqual(beside, tuple(end for end in ends if end >= width and end not in found))
        self.assertIs(sum_holds(net, paper), True)
        # So knots and depth together are not fewer.
        self.assertGreaterEqual(len(knots) + depth_of(net), 2 * width - 2)
        self.assertGreaterEqual(len(knots), len(tree) + len(beside))
        self.assertGreaterEqual(depth_of(net), len(spine))
        self.assertGreaterEqual(depth_of(net), least_depth(width))

    def test_by_hand(self):
        self.assertEqual(sum_paper(NET), PAPER)
        self.assertEqual(sum_paper((1, (), (0,))), ("sum", (), (), ()))
        self.assertEqual(sum_paper((2, ((0, 1),), (0, 2))), ("sum", (2,), (2,), ()))
        self.assertEqual(sum_paper((2, ((0, 1), (0, 1)), (0, 3))), ("sum", (3,), (3,), ()))
        self.assertEqual(sum_paper((3, ((0, 1), (1, 2), (0, 4)), (0, 3, 5))), ("sum", (4, 5), (5,), (3,)))
        self.assertEqual(sum_paper(one_by_one_net(4)), ("sum", (4, 5, 6), (6, 5, 4), ()))
        self.assertEqual(sum_paper(stepped_net(4)), ("sum", (4, 6, 8), (8, 4), (7,)))

    def test_an_end_that_has_a_span_of_the_spine_but_is_another_knot(self):
        net = (3, ((0, 1), (0, 1), (4, 2)), (0, 3, 5))
        self.assertEqual(sum_paper(net), ("sum", (4, 5), (5, 4), (3,)))
        self.check(net)

    def test_rules(self):
        for width in range(1, 65):
            for net in rule_nets(width):
                self.check(net)

    def test_other_nets(self):
        dice = random.Random(71)
        for trial in range(150):
            net = built(random_paper(dice, dice.randrange(1, 12), 4))
            net = more_knots(dice, net, 3)
            self.assertTrue(tells_beginnings(net))
            self.check(net)

    def test_refused(self):
        for wrong in WRONG_NETS:
            self.assertIs(type(error_of(sum_paper, wrong)), NoNet)
        for net, knot in NETS_NOT_BESIDE:
            error = error_of(sum_paper, net)
            self.assertIs(type(error), NotBeside)
            self.assertEqual(error.knot, knot)
        for net in NO_ENDS:
            error = error_of(sum_paper, net)
            self.assertIs(type(error), NoEnds)
            self.assertIsInstance(error, NetError)

    def test_the_order(self):
        self.assertIs(type(error_of(sum_paper, (2, ((1, 0),), (5,)))), NoNet)
        self.assertIs(type(error_of(sum_paper, (2, ((1, 0),), (0,)))), NotBeside)
        self.assertIs(type(error_of(sum_paper, (2, ((0, 1), (1, 0)), (0, 2)))), NotBeside)


class SumHolds(unittest.TestCase):
    def test_by_hand(self):
        self.assertIs(sum_holds(NET, PAPER), True)
        for good in (
                # The tree in any order, and of any knots.
                ("sum", (7, 5, 4), (7, 4), (6,)), ("sum", (5, 4, 7), (7, 4), (6,)), ("sum", (8, 9, 7), (7, 4), (6,)),
                # A shorter spine, with more beside it, ends or not.
                ("sum", (4, 5, 7), (7,), (6, 8)), ("sum", (4, 5, 7), (7,), (9, 8)), ("sum", (4, 5, 7), (7, 4), (8,)),
                ("sum", (4, 5, 7), (7, 4), (9, 6, 8)), ("sum", (8, 9, 5), (7, 4), (7,))):
            self.assertIs(sum_holds(NET, good), True)
        for wrong in (
                ("sum", (4, 5), (7, 4), (6,)), ("sum", (4, 5, 7, 8), (7, 4), (6,)), ("sum", (4, 5, 5), (7, 4), (6,)),
                ("sum", (4, 5, 10), (7, 4), (6,)), ("sum", (4, 5, 3), (7, 4), (6,)), ("sum", (), (7, 4), (6,)),
                ("sum", (4, 5, 7), (7, 4), ()), ("sum", (4, 5, 7), (7,), (6,)), ("sum", (4, 5, 7), (7, 5), (6,)),
                ("sum", (4, 5, 7), (4, 7), (6,)), ("sum", (4, 5, 7), (7, 4, 0), (6,)),
                ("sum", (4, 5, 7), (), (6, 8, 9)),
                ("sum", (4, 5, 7), (7, 7), (6,)), ("sum", (4, 5, 7), (6, 4), (6,)), ("sum", (4, 5, 7), (4,), (6, 8)),
                ("sum", (4, 5, 7), (7, 4), (4,)), ("sum", (4, 5, 7), (7,), (6, 6)), ("sum", (4, 5, 7), (7, 4), (3,)),
                ("sum", (4, 5, 7), (7, 4), (10,)), ("sum", (4, 5, 7), (7, 4), (0,)), ("sum", (4, 5, 7), (7,), (6, 5))):
            self.assertIs(sum_holds(NET, wrong), False)

    def test_of_width_one_and_two(self):
        self.assertIs(sum_holds((1, (), (0,)), ("sum", (), (), ())), True)
        for wrong in (("sum", (0,), (), ()), ("sum", (), (0,), ()), ("sum", (), (), (0,)), ("sum", (), (1,), ())):
            self.assertIs(sum_holds((1, (), (0,)), wrong), False)
        two = (2, ((0, 1), (0, 1)), (0, 2))
        self.assertIs(sum_holds(two, ("sum", (2,), (2,), ())), True)
        self.assertIs(sum_holds(two, ("sum", (2,), (2,), (3,))), True)
        self.assertIs(sum_holds(two, ("sum", (3,), (2,), ())), True)
        self.assertIs(sum_holds(two, ("sum", (2,), (), (3,))), False)
        self.assertIs(sum_holds(two, ("sum", (2,), (3,), ())), False)

    def test_changed_papers(self):
        dice = random.Random(72)
        nets = [NET] + [net for width in (1, 2, 3, 5, 6) for net in rule_nets(width)]
        nets += [random_beginnings(dice, dice.randrange(1, 7)) for trial in range(30)]
        seen = set()
        for net in nets:
            paper = sum_paper(net)
            most = net[0] + len(net[1])
            for place in (1, 2, 3):
                for numbers in changed_numbers(paper[place], most):
                    other = paper[:place] + (numbers,) + paper[place + 1:]
                    good = slow_holds(net, other)
                    seen.add(good)
                    self.assertIs(sum_holds(net, other), good)
        self.assertEqual(seen, {True, False})

    def test_two_places_changed(self):
        dice = random.Random(73)
        for trial in range(3000):
            numbers = [tuple(dice.randrange(3, 11) for step in range(dice.randrange(5))) for place in range(3)]
            places = dice.sample((1, 2, 3), 2)
            paper = tuple(numbers[at - 1] if at in places else PAPER[at] for at in range(4))
            self.assertIs(sum_holds(NET, paper), slow_holds(NET, paper))

    def test_another_net(self):
        self.assertIs(sum_holds(one_by_one_net(4), PAPER), False)
        self.assertIs(sum_holds(stepped_net(4), PAPER), False)

    def test_nets_that_do_not_tell_beginnings(self):
        for net in NO_ENDS:
            last = net[0] + len(net[1]) - 1
            for paper in (PAPER, ("sum", (), (), ()), ("sum", (2,), (2,), ()), ("sum", (3, 4), (4, 3), ()),
                          ("sum", (3, 4), (last,), (3,))):
                self.assertIs(sum_holds(net, paper), False)
        width, knots, ends = NET
        self.assertIs(sum_holds((width, knots + ((1, 0),), ends), PAPER), False)

    def test_wrong_numbers_at_each_place(self):
        for place in (1, 2, 3):
            for wrong in NO_TUPLES + DEEP + (list(PAPER[place]), str(PAPER[place]), dict.fromkeys(PAPER[place])):
                self.assertIs(sum_holds(NET, PAPER[:place] + (wrong,) + PAPER[place + 1:]), False)
            for at, number in enumerate(PAPER[place]):
                for wrong in NO_NUMBERS + DEEP + (BIG, -BIG, -number, [number], str(number), (number,)):
                    numbers = PAPER[place][:at] + (wrong,) + PAPER[place][at + 1:]
                    self.assertIs(sum_holds(NET, PAPER[:place] + (numbers,) + PAPER[place + 1:]), False)

    def test_anything(self):
        for wrong in NO_TUPLES + DEEP + WRONG_NETS + (
                (), PAPER[:3], PAPER[1:], PAPER + ((),), list(PAPER), (PAPER,), ("Sum",) + PAPER[1:], ("sum",),
                (None,) + PAPER[1:], (("sum",),) + PAPER[1:], (0,) + PAPER[1:], "sum"):
            self.assertIs(sum_holds(NET, wrong), False)
            self.assertIs(sum_holds(wrong, PAPER), False)
            self.assertIs(sum_holds(wrong, ("sum", (), (), ())), False)
            self.assertIs(sum_holds(wrong, wrong), False)


if __name__ == "__main__":
    unittest.main()
