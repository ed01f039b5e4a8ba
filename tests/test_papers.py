"""[24], and [26] as far as nothing is built: the form of papers, their widths, knots and depths."""

import random
import unittest

from sumnets.building import built
from sumnets.errors import NetError, NoPaper
from sumnets.levels import least_depth
from sumnets.papers import depths_in, knots_in, width_of
from tests.samples import (
    BUILT, KNOTS_990, KNOTS_1000, KNOTS_1001, ONE, PAPERS, T, WRONG_PAPERS, WRONG_PARTS, changed_at, deep_blocks,
    deep_over, error_of, heavy_behind, paper_places, random_paper)

REFUSING = (width_of, knots_in, depths_in, built)
NESTED = ("blocks", ("blocks", T, (T, ONE)), (T, ONE, ("blocks", T, (ONE, T))))


def slow_width(paper):
    return paper[1] if paper[0] == "steps" else sum(slow_width(block) for block in paper[2])


def slow_knots(paper):
    """The words of the document, with a power of two."""
    if paper[0] == "steps":
        return paper[1] * least_depth(paper[1]) - 2 ** least_depth(paper[1]) + 1
    own = sum(slow_width(block) - 1 for block in paper[2][1:])
    return own + slow_knots(paper[1]) + sum(slow_knots(block) for block in paper[2])


class Said(unittest.TestCase):
    def test_by_hand(self):
        for paper, net in BUILT:
            self.assertEqual(width_of(paper), net[0])
            self.assertEqual(knots_in(paper), len(net[1]))
        self.assertEqual([depths_in(paper) for paper, net in BUILT], [
            [0], [0, 1], [0, 1, 2], [0, 1, 2, 2], [0, 1], [0, 1, 2, 2], [0, 1, 2, 3], [0, 1, 2, 2, 3, 3],
            [0, 1, 2, 3, 3], [0, 1, 2, 2, 3]])

    def test_steps(self):
        for width in range(1, 65):
            paper = ("steps", width)
            self.assertEqual(width_of(paper), width)
            self.assertEqual(knots_in(paper), sum(width - step for step in (1, 2, 4, 8, 16, 32) if step < width))
            self.assertEqual(depths_in(paper), [least_depth(place + 1) for place in range(width)])
        self.assertEqual(knots_in(("steps", 64)), 321)

    def test_overs_things_are_as_deep_as_the_blocks_last_ends(self):
        # The second block is deeper than the first, so over's knots are deeper than over by itself.
        paper = ("blocks", ("steps", 3), (ONE, ("steps", 5), ONE))
        self.assertEqual(depths_in(paper), [0, 1, 2, 3, 3, 4, 5])
        self.assertEqual(depths_in(("blocks", T, (("steps", 5), T))), [0, 1, 2, 2, 3, 4, 4])

    def test_random_papers(self):
        dice = random.Random(51)
        for trial in range(300):
            paper = random_paper(dice, dice.randrange(1, 65), dice.randrange(1, 6))
            self.assertEqual(width_of(paper), slow_width(paper))
            self.assertEqual(knots_in(paper), slow_knots(paper))
            self.assertEqual(len(depths_in(paper)), slow_width(paper))

    def test_kinds(self):
        for paper in PAPERS:
            self.assertIs(type(width_of(paper)), int)
            self.assertIs(type(knots_in(paper)), int)
            self.assertIs(type(depths_in(paper)), list)

    def test_lists_are_built_anew(self):
        for paper in (ONE, T, NESTED):
            first = depths_in(paper)
            kept = list(first)
            first.clear()
            self.assertEqual(depths_in(paper), kept)


class Limits(unittest.TestCase):
    def test_papers(self):
        for paper in PAPERS:
            for call in REFUSING:
                self.assertIsNone(error_of(call, paper))

    def test_depths(self):
        self.assertEqual([width_of(deep_over(depth)) for depth in (1, 2, 69, 70)], [2, 2, 2, 2])
        self.assertEqual([knots_in(deep_over(depth)) for depth in (1, 2, 69, 70)], [1, 1, 1, 1])
        self.assertEqual(depths_in(deep_over(70)), [0, 1])
        for wrong in (deep_over(71), deep_over(160), deep_blocks(71), deep_blocks(64)):
            for call in REFUSING:
                self.assertIs(type(error_of(call, wrong)), NoPaper)
        self.assertEqual(width_of(deep_blocks(63)), 64)

    def test_a_deep_one_within_blocks(self):
        good = ("blocks", T, (ONE, deep_over(69)))
        self.assertEqual((width_of(good), knots_in(good), depths_in(good)), (3, 3, [0, 1, 2]))
        for wrong in (("blocks", T, (ONE, deep_over(70))), ("blocks", deep_over(70), (ONE, T))):
            self.assertIs(type(error_of(width_of, wrong)), NoPaper)

    def test_knots(self):
        self.assertEqual(knots_in(KNOTS_990), 990)
        self.assertEqual(slow_knots(KNOTS_1000), 1000)
        self.assertEqual(slow_knots(KNOTS_1001), 1001)
        self.assertEqual(knots_in(KNOTS_1000), 1000)
        self.assertEqual(width_of(KNOTS_1000), 49)
        for wrong in (KNOTS_1001, heavy_behind(46), heavy_behind(64)):
            for call in REFUSING:
                self.assertIs(type(error_of(call, wrong)), NoPaper)
        # As over, with blocks that bring no knots of their own.
        self.assertEqual(knots_in(("blocks", KNOTS_1000, (ONE,) * 49)), 1000)
        self.assertIs(type(error_of(knots_in, ("blocks", KNOTS_1001, (ONE,) * 50))), NoPaper)
        self.assertIs(type(error_of(knots_in, ("blocks", KNOTS_1000, (T,) + (ONE,) * 48))), NoPaper)

    def test_widths(self):
        for width in (1, 2, 63, 64):
            self.assertEqual(width_of(("steps", width)), width)
        for width in (0, -1, 65, 66, 1000):
            for call in REFUSING:
                self.assertIs(type(error_of(call, ("steps", width))), NoPaper)
        self.assertEqual(width_of(("blocks", T, (("steps", 63), ONE))), 64)
        self.assertIs(type(error_of(width_of, ("blocks", T, (("steps", 63), T)))), NoPaper)


class Refused(unittest.TestCase):
    def test_wrong_papers(self):
        for wrong in WRONG_PAPERS:
            for call in REFUSING:
                error = error_of(call, wrong)
                self.assertIs(type(error), NoPaper, str(wrong)[:80])
                self.assertIsInstance(error, NetError)
                self.assertIsInstance(error, ValueError)

    def test_at_any_depth_of_a_paper(self):
        for path in paper_places(NESTED):
            for wrong in WRONG_PARTS:
                paper = changed_at(NESTED, path, wrong)
                for call in REFUSING:
                    self.assertIs(type(error_of(call, paper)), NoPaper)

    def test_deep_down(self):
        for wrong in (None, ("steps", True), ("steps", 0), ["steps", 2], ("steps", 3), ONE, ()):
            self.assertIs(type(error_of(width_of, deep_over(60, wrong))), NoPaper)
        for wrong in (None, ("steps", True), ("steps", 0), ["steps", 2], ("steps", 65), ()):
            self.assertIs(type(error_of(width_of, deep_blocks(60, wrong))), NoPaper)

    def test_in_the_last_of_many_blocks(self):
        for wrong in WRONG_PARTS:
            paper = ("blocks", ("steps", 64), (ONE,) * 63 + (wrong,))
            self.assertIs(type(error_of(width_of, paper)), NoPaper)


if __name__ == "__main__":
    unittest.main()
