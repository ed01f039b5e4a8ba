"""[27], [28], [4]: the papers of the rules, and what they build."""

import unittest

from sumnets.building import built, built_holds
from sumnets.errors import NetError, NoSize, NoSpare, NoWidth
from sumnets.levels import depth_of, least_depth, levels_of
from sumnets.outs import most_out
from sumnets.papers import depths_in, knots_in, width_of
from sumnets.rules import by_blocks, by_halves, by_one, by_pairs, by_steps, by_twos, spared
from sumnets.spans import tells_beginnings
from tests.samples import BIG, DEEP, NO_NUMBERS, ONE, T, error_of, one_by_one_net, stepped_net

ALONE = (by_steps, by_one, by_halves, by_pairs, by_twos)
WIDTHS = range(1, 65)
NO_WIDTHS = NO_NUMBERS + DEEP + (0, -1, -2, 65, 66, 1000, BIG, -BIG)
NO_SPARES = NO_NUMBERS + DEEP + (-1, -2, 7, 8, 64, BIG, -BIG)
NO_SIZES = NO_WIDTHS


def pairs(width):
    return (T,) * (width // 2) + ((ONE,) if width % 2 else ())


def deepest(paper):
    return max(depths_in(paper))


class Papers(unittest.TestCase):
    def test_small_papers_by_hand(self):
        self.assertEqual(by_steps(5), ("steps", 5))
        self.assertEqual(by_one(3), ("blocks", T, (T, ONE)))
        self.assertEqual(by_one(4), ("blocks", T, (("blocks", T, (T, ONE)), ONE)))
        self.assertEqual(by_halves(3), ("blocks", T, (T, ONE)))
        self.assertEqual(by_halves(4), ("blocks", T, (T, T)))
        self.assertEqual(by_halves(5), ("blocks", T, (("blocks", T, (T, ONE)), T)))
        self.assertEqual(by_pairs(3), ("blocks", T, (T, ONE)))
        self.assertEqual(by_pairs(5), ("blocks", ("blocks", T, (T, ONE)), (T, T, ONE)))
        self.assertEqual(by_pairs(8), ("blocks", ("blocks", T, (T, T)), (T, T, T, T)))
        self.assertEqual(by_twos(5), ("blocks", ("steps", 3), (T, T, ONE)))
        self.assertEqual(by_twos(8), ("blocks", ("steps", 4), (T, T, T, T)))
        self.assertEqual(spared(3, 0), ("blocks", T, (T, ONE)))
        self.assertEqual(spared(4, 0), ("blocks", T, (T, T)))
        self.assertEqual(spared(5, 0), ("blocks", T, (("blocks", T, (T, ONE)), T)))
        self.assertEqual(spared(8, 0), ("blocks", T, (("blocks", T, (T, T)), ("blocks", T, (T, T)))))
        self.assertEqual(spared(5, 1), ("blocks", ("blocks", T, (T, ONE)), (T, T, ONE)))
        self.assertEqual(by_blocks(7, 3), ("blocks", ("blocks", T, (T, ONE)), (("steps", 3), ("steps", 3), ONE)))
        self.assertEqual(by_blocks(6, 3), ("blocks", T, (("steps", 3), ("steps", 3))))
        self.assertEqual(by_blocks(3, 1), ("blocks", ("blocks", T, (T, ONE)), (ONE, ONE, ONE)))

    def test_widths_of_one_and_two(self):
        for width in (1, 2):
            for rule in ALONE:
                self.assertEqual(rule(width), ("steps", width))
            for spare in range(7):
                self.assertEqual(spared(width, spare), ("steps", width))
            for size in range(1, 65):
                self.assertEqual(by_blocks(width, size), ("steps", width))

    def test_each_width_as_told(self):
        for width in range(3, 65):
            half, rest = (width + 1) // 2, width // 2
            self.assertEqual(by_steps(width), ("steps", width))
            self.assertEqual(by_one(width), ("blocks", T, (by_one(width - 1), ONE)))
            self.assertEqual(by_halves(width), ("blocks", T, (by_halves(half), by_halves(rest))))
            self.assertEqual(by_pairs(width), ("blocks", by_pairs(half), pairs(width)))
            self.assertEqual(by_twos(width), ("blocks", ("steps", half), pairs(width)))
            self.assertEqual(spared(width, 0), ("blocks", T, (spared(half, 1), spared(rest, 0))))
            for spare in range(1, 7):
                self.assertEqual(spared(width, spare), ("blocks", spared(half, spare - 1), pairs(width)))

    def test_each_width_and_size_as_told(self):
        for width in range(3, 65):
            for size in range(1, 65):
                if width <= size:
                    self.assertEqual(by_blocks(width, size), ("steps", width))
                    continue
                sizes = [min(size, width - first) for first in range(0, width, size)]
                blocks = tuple(("steps", part) for part in sizes)
                self.assertEqual(by_blocks(width, size), ("blocks", by_halves(len(sizes)), blocks))


class Nets(unittest.TestCase):
    def check(self, paper, width):
        net = built(paper)
        self.assertEqual(net[0], width)
        self.assertEqual(width_of(paper), width)
        self.assertTrue(tells_beginnings(net))
        self.assertEqual(len(net[1]), knots_in(paper))
        depths = [0] * width + levels_of(net)
        self.assertEqual([depths[end] for end in net[2]], depths_in(paper))
        self.assertEqual(depth_of(net), deepest(paper))
        self.assertTrue(built_holds(paper, net))

    def test_what_is_said_without_building_is_so(self):
        for width in WIDTHS:
            for rule in ALONE:
                self.check(rule(width), width)
            for spare in range(7):
                self.check(spared(width, spare), width)

    def test_of_blocks_too(self):
        for width in WIDTHS:
            for size in range(1, 65):
                self.check(by_blocks(width, size), width)

    def test_by_steps(self):
        for width in WIDTHS:
            self.assertEqual(deepest(by_steps(width)), least_depth(width))
            self.assertEqual(built(by_steps(width)), stepped_net(width))
            self.assertLessEqual(most_out(built(by_steps(width))), least_depth(width))

    def test_by_one(self):
        for width in WIDTHS:
            self.assertEqual(knots_in(by_one(width)), width - 1)
            self.assertEqual(deepest(by_one(width)), width - 1)
            self.assertEqual(built(by_one(width)), one_by_one_net(width))

    def test_by_halves(self):
        for width in WIDTHS:
            self.assertEqual(deepest(by_halves(width)), least_depth(width))
            self.assertLessEqual(knots_in(by_halves(width)), least_depth(width) * (width // 2))
        self.assertEqual(knots_in(by_halves(64)), 192)

    def test_by_pairs(self):
        for width in WIDTHS:
            depth = least_depth(width)
            self.assertEqual(knots_in(by_pairs(width)), 2 * width - 2 - depth)
            self.assertLessEqual(deepest(by_pairs(width)), 2 * depth - 1 if width > 1 else 0)

    def test_by_twos(self):
        for width in WIDTHS:
            self.assertLessEqual(deepest(by_twos(width)), least_depth(width) + 1)

    def test_spared(self):
        for width in WIDTHS:
            depth = least_depth(width)
            for spare in range(7):
                self.assertLessEqual(deepest(spared(width, spare)), depth + spare)
                self.assertEqual(depths_in(spared(width, spare))[-1], depth)

    def test_by_blocks(self):
        for width in WIDTHS:
            for size in range(1, 65):
                count = (width + size - 1) // size if width > max(size, 2) else 1
                most = 1 + least_depth(min(size, width)) + least_depth(count)
                self.assertLessEqual(deepest(by_blocks(width, size)), most)


class Refused(unittest.TestCase):
    def check(self, kind, call, *arguments):
        error = error_of(call, *arguments)
        self.assertIs(type(error), kind)
        self.assertIsInstance(error, NetError)

    def test_no_width(self):
        for wrong in NO_WIDTHS:
            for rule in ALONE:
                self.check(NoWidth, rule, wrong)
            for other in (0, 1, 6):
                self.check(NoWidth, spared, wrong, other)
            for other in (1, 2, 64):
                self.check(NoWidth, by_blocks, wrong, other)

    def test_no_width_goes_first(self):
        for wrong in NO_WIDTHS:
            for other in (None, -1, 7, "1", 65, True):
                self.check(NoWidth, spared, wrong, other)
            for other in (None, 0, 65, "1", -1, True):
                self.check(NoWidth, by_blocks, wrong, other)

    def test_no_spare_of_every_width(self):
        for width in WIDTHS:
            self.check(NoSpare, spared, width, -1)
            self.check(NoSpare, spared, width, 7)
        for width in (1, 2, 3, 4, 64):
            for wrong in NO_SPARES:
                self.check(NoSpare, spared, width, wrong)

    def test_no_size_of_every_width(self):
        for width in WIDTHS:
            self.check(NoSize, by_blocks, width, 0)
            self.check(NoSize, by_blocks, width, 65)
        for width in (1, 2, 3, 4, 64):
            for wrong in NO_SIZES:
                self.check(NoSize, by_blocks, width, wrong)

    def test_what_is_not_refused(self):
        for width in (1, 2, 64):
            for spare in (0, 6):
                self.assertIsNone(error_of(spared, width, spare))
            for size in (1, 64):
                self.assertIsNone(error_of(by_blocks, width, size))
            for rule in ALONE:
                self.assertIsNone(error_of(rule, width))


if __name__ == "__main__":
    unittest.main()
