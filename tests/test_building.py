"""[25], [26], and [2] as far as it speaks of built_holds."""

import random
import unittest

from sumnets.building import built, built_holds
from sumnets.levels import levels_of
from sumnets.papers import depths_in, knots_in, width_of
from sumnets.rows import beginnings_told
from sumnets.spans import tells_beginnings
from sumnets.telling import told
from tests.samples import (
    BIG, BUILT, DEEP, JOININGS, NO_NUMBERS, NO_TUPLES, ONE, PAPERS, T, WRONG_NETS, WRONG_PAPERS, deep_over,
    random_paper, stepped_net)


def moved(net, things, count):
    """A net's knots and ends with these numbers for its things, its knots numbered from count on."""
    width, knots, ends = net
    numbers = list(things) + list(range(count, count + len(knots)))
    return [(numbers[left], numbers[right]) for left, right in knots], [numbers[end] for end in ends]


def slow_built(paper):
    """The words of the document: nets by themselves, then put together."""
    if paper[0] == "steps":
        return stepped_net(paper[1])
    word, over, blocks = paper
    nets = [slow_built(block) for block in blocks]
    width = sum(net[0] for net in nets)
    knots, rows, first = [], [], 0
    for net in nets:
        more, ends = moved(net, range(first, first + net[0]), width + len(knots))
        knots += more
        rows.append(ends)
        first += net[0]
    more, tops = moved(slow_built(over), [row[-1] for row in rows], width + len(knots))
    knots += more
    ends = rows[0][:-1] + [tops[0]]
    for at in range(1, len(blocks)):
        for end in rows[at][:-1]:
            ends.append(width + len(knots))
            knots.append((tops[at - 1], end))
        ends.append(tops[at])
    return (width, tuple(knots), tuple(ends))


class Built(unittest.TestCase):
    def check(self, paper):
        net = built(paper)
        self.assertEqual(net, slow_built(paper))
        self.assertTrue(tells_beginnings(net))
        self.assertEqual(net[0], width_of(paper))
        self.assertEqual(len(net[1]), knots_in(paper))
        depths = [0] * net[0] + levels_of(net)
        self.assertEqual([depths[end] for end in net[2]], depths_in(paper))
        self.assertIs(built_holds(paper, net), True)
        self.assertEqual(built(paper), net)

    def test_by_hand(self):
        for paper, net in BUILT:
            self.assertEqual(built(paper), net)
            self.check(paper)

    def test_papers(self):
        for paper in PAPERS:
            self.check(paper)

    def test_steps(self):
        for width in range(1, 65):
            self.check(("steps", width))

    def test_random_papers(self):
        dice = random.Random(61)
        for trial in range(200):
            self.check(random_paper(dice, dice.randrange(1, 65), dice.randrange(1, 7)))

    def test_told(self):
        dice = random.Random(62)
        for joining, things in JOININGS:
            for trial in range(4):
                net = built(random_paper(dice, dice.randrange(1, 20), 4))
                row = tuple(dice.choice(things) for place in range(net[0]))
                self.assertEqual(told(net, joining, row), beginnings_told(joining, row))


class BuiltHolds(unittest.TestCase):
    def test_another_paper(self):
        for at, (paper, net) in enumerate(BUILT):
            for other_at, (other, other_net) in enumerate(BUILT):
                self.assertIs(built_holds(paper, other_net), net == other_net)

    def test_one_place_of_the_net_changed(self):
        for paper, (width, knots, ends) in BUILT:
            self.assertIs(built_holds(paper, (width, knots, ends)), True)
            for wrong in NO_NUMBERS + DEEP + (BIG, -1, width + 1, width - 1, bool(width)):
                self.assertIs(built_holds(paper, (wrong, knots, ends)), False)
            for at, end in enumerate(ends):
                for wrong in NO_NUMBERS + DEEP + (BIG, -1, end + 1, end - 1, [end], str(end)):
                    self.assertIs(built_holds(paper, (width, knots, ends[:at] + (wrong,) + ends[at + 1:])), False)
            for at, (left, right) in enumerate(knots):
                wrongs = NO_TUPLES + DEEP + (
                    (right, left), (left, right, right), (left,), [left, right], (left, right - 1), (left + 1, right),
                    (left, None), (None, right), (left, [right]), (str(left), right), (left, BIG))
                wrongs += ((bool(left), right),) if left < 2 else ()
                wrongs += ((left, bool(right)),) if right < 2 else ()
                for wrong in wrongs:
                    net = (width, knots[:at] + (wrong,) + knots[at + 1:], ends)
                    self.assertIs(built_holds(paper, net), False)

    def test_more_fewer_elsewhere(self):
        paper, (width, knots, ends) = BUILT[5]
        for wrong in (
                (width, knots + ((0, 1),), ends), (width, knots[:-1], ends[:2] + (2, 6)), (width, knots, ends[::-1]),
                (width, knots, ends + ends[-1:]), (width, knots, ends[:-1]), (width, list(knots), ends),
                (width, knots, list(ends)), [width, knots, ends], ((width, knots, ends),), (width, knots),
                (width, (knots[1], knots[0], (5, 4), (5, 2)), (0, 5, 7, 6))):
            self.assertIs(built_holds(paper, wrong), False)

    def test_other_nets_that_tell_beginnings(self):
        self.assertIs(built_holds(("blocks", T, (T, T)), stepped_net(4)), False)
        self.assertIs(built_holds(("steps", 4), stepped_net(4)), True)
        self.assertIs(built_holds(("steps", 5), stepped_net(4)), False)

    def test_anything(self):
        for wrong in WRONG_PAPERS:
            for paper, net in BUILT:
                self.assertIs(built_holds(wrong, net), False)
            self.assertIs(built_holds(wrong, wrong), False)
            self.assertIs(built_holds(wrong, None), False)
        for wrong in WRONG_NETS + NO_TUPLES + DEEP + (deep_over(160), T, ONE):
            for paper in (ONE, T, ("steps", 64), ("blocks", T, (T, T))):
                self.assertIs(built_holds(paper, wrong), False)

    def test_truths_in_papers(self):
        self.assertIs(built_holds(("steps", True), (1, (), (0,))), False)
        self.assertIs(built_holds(ONE, (1, (), (0,))), True)
        self.assertIs(built_holds(ONE, (True, (), (0,))), False)
        self.assertIs(built_holds(ONE, (1, (), (False,))), False)


if __name__ == "__main__":
    unittest.main()
