"""[23]: nets in which no two knots have one span."""

import random
import unittest

from sumnets.errors import NetError, NoNet, NotBeside
from sumnets.levels import depth_of, levels_of
from sumnets.merged import merged
from sumnets.spans import spans_of, tells
from sumnets.telling import told
from tests.samples import (
    NETS_NOT_BESIDE, WRONG_NETS, doubling_chain, error_of, one_by_one_net, random_right_net, stepped_net)


def slow_merged(net):
    """The words of the document, one by one."""
    width, knots, ends = net
    spans = [(place, place) for place in range(width)] + spans_of(net)
    depths = [0] * width + levels_of(net)
    numbers = range(width, width + len(knots))
    stand = list(range(width))
    for number in numbers:
        alike = [other for other in numbers if spans[other] == spans[number]]
        least = min(depths[other] for other in alike)
        stand.append([other for other in alike if depths[other] == least][0])
    stay = sorted(set(stand[width:]), key=lambda number: (depths[number], number))
    anew = list(range(width)) + [None] * len(knots)
    for at, number in enumerate(stay):
        anew[number] = width + at
    new = tuple(tuple(anew[stand[side]] for side in knots[number - width]) for number in stay)
    return (width, new, tuple(anew[stand[end]] for end in ends))


class Merged(unittest.TestCase):
    def test_of_unlike_depths_the_least_deep_one_stays(self):
        # Knot 6 tells all four three deep, knot 8 two deep.
        net = (4, ((0, 1), (4, 2), (5, 3), (2, 3), (4, 7)), (6, 8))
        self.assertEqual(merged(net), (4, ((0, 1), (2, 3), (4, 2), (4, 5)), (7, 7)))

    def test_of_one_depth_the_first_stays(self):
        net = (3, ((0, 1), (1, 2), (0, 4), (3, 2)), (5, 6))
        self.assertEqual(merged(net), (3, ((0, 1), (1, 2), (0, 4)), (5, 5)))
        self.assertEqual(merged((2, ((0, 1), (0, 1)), (2, 3))), (2, ((0, 1),), (2, 2)))

    def test_it_stands_for_the_others_within_knots(self):
        net = (5, ((0, 1), (5, 2), (6, 3), (2, 3), (5, 8), (7, 4)), (10,))
        self.assertEqual(merged(net), (5, ((0, 1), (2, 3), (5, 2), (5, 6), (8, 4)), (9,)))

    def test_ordered_by_depths_then_by_numbers(self):
        net = (4, ((0, 1), (4, 2), (5, 3), (2, 3), (1, 2)), (6,))
        self.assertEqual(merged(net), (4, ((0, 1), (2, 3), (1, 2), (4, 2), (7, 3)), (8,)))

    def test_ordered_by_the_depths_that_they_had(self):
        # The last knot is 4 deep at first, 3 deep behind it, and yet stays behind the one that was 3 deep.
        net = (5, ((0, 1), (5, 2), (6, 3), (2, 3), (5, 8), (7, 4), (1, 2), (11, 3), (12, 4)), (10, 13))
        self.assertEqual(levels_of(net), [1, 2, 3, 1, 2, 4, 1, 2, 3])
        new = merged(net)
        self.assertEqual(new, slow_merged(net))
        self.assertEqual(new[1][-1], (new[0] + 4, 4))
        self.assertEqual(spans_of(new)[-2:], [(1, 4), (0, 4)])
        self.assertEqual(levels_of(new)[-2:], [3, 3])

    def test_needless_knots_stay(self):
        self.assertEqual(merged((3, ((0, 1), (1, 2)), (0,))), (3, ((0, 1), (1, 2)), (0,)))

    def test_no_knots(self):
        for width in (1, 64):
            self.assertEqual(merged((width, (), (0, width - 1))), (width, (), (0, width - 1)))

    def test_nets_that_have_each_span_once(self):
        self.assertEqual(merged(one_by_one_net(64)), one_by_one_net(64))
        self.assertEqual(merged(stepped_net(64)), stepped_net(64))

    def test_a_thousand_knots(self):
        self.assertEqual(merged((2, ((0, 1),) * 1000, tuple(range(400)))), (2, ((0, 1),), (0, 1) + (2,) * 398))
        chain = ((0, 1),) + tuple((number, number - 62) for number in range(64, 126))
        self.assertEqual(merged((64, chain * 15, (126,))), (64, chain, (126,)))

    def test_random_nets(self):
        dice = random.Random(41)
        for trial in range(400):
            net, spans, ends = random_right_net(dice, dice.randrange(1, 9), dice.randrange(30))
            new = merged(net)
            self.assertEqual(new, slow_merged(net))
            self.assertTrue(tells(new, ends))
            self.assertEqual(len(set(spans_of(new))), len(new[1]))
            self.assertEqual(set(spans_of(new)), set(spans))
            self.assertLessEqual(depth_of(new), depth_of(net))
            depths = dict(zip(spans_of(new), levels_of(new)))
            for span, depth in zip(spans, levels_of(net)):
                self.assertLessEqual(depths[span], depth)
            things = tuple((place,) for place in range(net[0]))
            self.assertEqual(told(new, ("rows",), things), told(net, ("rows",), things))

    def test_no_net(self):
        for wrong in WRONG_NETS + (doubling_chain(1001),):
            error = error_of(merged, wrong)
            self.assertIs(type(error), NoNet)
            self.assertIsInstance(error, NetError)

    def test_not_beside(self):
        for net, knot in NETS_NOT_BESIDE:
            error = error_of(merged, net)
            self.assertIs(type(error), NotBeside)
            self.assertIsInstance(error, NetError)
            self.assertEqual(error.knot, knot)

    def test_no_net_goes_first(self):
        self.assertIs(type(error_of(merged, (2, ((1, 0),), (5,)))), NoNet)
        self.assertIs(type(error_of(merged, (2, ((1, 0), (7, 7)), (0,)))), NoNet)


if __name__ == "__main__":
    unittest.main()
