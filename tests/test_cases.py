"""[31], and [2] as far as it speaks of cases_holds."""

import random
import unittest

from sumnets.cases import cases_holds
from sumnets.fewest import fewest
from sumnets.rows import beginnings
from tests.samples import (
    BIG, DEEP, NO_NUMBERS, NO_TUPLES, at_path, changed_at, deep_dict, deep_list, deep_tuple, error_of, tree_parts,
    tree_places)

MANY = ("many",)
# The fewest for all beginnings of width 4 within 2: 4 knots, as (0, 2) isn't cut of (0, 3).
FOUR = (4, beginnings(4), 2, 4)
FOUR_TREE = ("cut", (0, 3), (MANY, MANY, ("deep", (0, 2))))


def limits_of(windows, depth, cuts):
    """The wanted windows with their limits, from the start for all cuts together."""
    limits = {window: depth for window in windows if window[0] < window[1]}
    changed = True
    while changed:
        changed = False
        for (first, last), behind in cuts.items():
            for part in ((first, behind), (behind + 1, last)):
                limit = limits[first, last] - 1
                if part[0] < part[1] and limits.get(part, limit + 1) > limit:
                    limits[part] = limit
                    changed = True
    return limits


def slow_right(windows, depth, number, tree, cuts):
    """The words of the document, of what has the form of a tree with windows in it."""
    limits = limits_of(windows, depth, cuts)
    if tree[0] == "many":
        return len(limits) >= number
    window = tree[1]
    if window not in limits:
        return False
    size = window[1] - window[0] + 1
    if tree[0] == "deep":
        return limits[window] < 1 or size > 2 ** limits[window]
    if window in cuts or len(tree[2]) != size - 1:
        return False
    return all(
        slow_right(windows, depth, number, branch, {**cuts, window: window[0] + at})
        for at, branch in enumerate(tree[2]))


def other_trees(dice, tree, width):
    """Other trees than this one at its place, of the form, with windows near the width."""
    yield MANY
    some = [(first, last) for first in range(width) for last in range(first, width + 1)]
    for window in some:
        yield ("deep", window)
    for window in dice.sample(some, min(6, len(some))):
        yield ("cut", window, (MANY,) * (window[1] - window[0]))
        yield ("cut", window, (MANY,) * (window[1] - window[0] + 1))
        yield ("cut", window, (tree,) * (window[1] - window[0]))
    if tree[0] == "deep":
        yield ("cut", tree[1], ())
    if tree[0] == "cut":
        word, window, branches = tree
        yield ("cut", window, branches[:-1])
        yield ("cut", window, branches + branches[-1:])
        yield ("cut", window, branches[::-1])
        yield ("cut", window, branches[1:] + branches[:1])
        yield ("cut", window[::-1], branches)
        yield ("cut", window, ("cut", window, branches))
        yield from branches


def chain_of_cuts(count):
    """Windows of two and of three things, and a tree that cuts so many of them one after another."""
    pairs = [(place, place + 1) for place in range(63)] + [(place, place + 2) for place in range(62)]
    tree = MANY
    for window in reversed(pairs[:count]):
        tree = ("cut", window, (tree,) + (MANY,) * (window[1] - window[0] - 1))
    return tuple(pairs), tree


def tree_of_parts(count):
    """A tree of just so many parts, from 3970 + 61 * k to 3970 + 61 * k + 60, that cuts ever shorter beginnings."""
    third, last = divmod(count - 3970, 61)
    leaves = [("cut", (0, 61), (MANY,) * 61)] * third
    leaves += [("cut", (0, last), (MANY,) * last)] if last else []
    leaves += [MANY] * (63 * 62 - len(leaves))
    rows = [tuple(leaves[62 * at:62 * at + 62]) for at in range(63)]
    return ("cut", (0, 63), tuple(("cut", (0, 62), row) for row in rows))


class ByHand(unittest.TestCase):
    def test_many(self):
        for width in (1, 2, 5, 64):
            for number in range(width):
                self.assertIs(cases_holds(width, beginnings(width), 10, number, MANY), True)
            self.assertIs(cases_holds(width, beginnings(width), 10, width, MANY), False)

    def test_many_counts_windows_of_more_than_one_thing_once(self):
        windows = ((0, 0), (0, 1), (0, 1), (2, 2), (1, 2), (0, 1))
        self.assertIs(cases_holds(3, windows, 5, 2, MANY), True)
        self.assertIs(cases_holds(3, windows, 5, 3, MANY), False)
        self.assertIs(cases_holds(3, ((1, 1),), 5, 0, MANY), True)
        self.assertIs(cases_holds(3, ((1, 1),), 5, 1, MANY), False)

    def test_no_windows(self):
        self.assertIs(cases_holds(1, (), 0, 0, MANY), True)
        self.assertIs(cases_holds(64, (), 0, 1, MANY), False)
        self.assertIs(cases_holds(64, (), 0, 1, ("deep", (0, 1))), False)

    def test_deep(self):
        for depth in range(7):
            for size in range(2, 65):
                good = size > 2 ** depth
                for first in (0, 64 - size):
                    window = (first, first + size - 1)
                    self.assertIs(cases_holds(64, (window,), depth, 1000, ("deep", window)), good)
        self.assertIs(cases_holds(64, ((0, 63),), 1000, 1000, ("deep", (0, 63))), False)

    def test_deep_of_a_limit_below_one(self):
        self.assertIs(cases_holds(2, ((0, 1),), 0, 9, ("deep", (0, 1))), True)
        self.assertIs(cases_holds(2, ((0, 1),), 1, 9, ("deep", (0, 1))), False)
        below = ("cut", (0, 2), (("deep", (1, 2)), ("deep", (0, 1))))
        self.assertIs(cases_holds(3, ((0, 2),), 0, 9, below), True)
        self.assertIs(cases_holds(3, ((0, 2),), 1, 9, below), True)
        self.assertIs(cases_holds(3, ((0, 2),), 2, 9, below), False)
        further = ("cut", (0, 3), (("cut", (1, 3), (("deep", (2, 3)), ("deep", (1, 2)))), MANY, MANY))
        self.assertIs(cases_holds(4, ((0, 3),), 0, 1, further), True)

    def test_deep_of_what_is_not_wanted(self):
        for window in ((0, 2), (1, 2), (0, 0), (2, 2), (0, 4), (1, 4)):
            self.assertIs(cases_holds(4, ((0, 3), (2, 2)), 1, 9, ("deep", window)), False)
        self.assertIs(cases_holds(4, ((0, 3), (2, 2)), 1, 9, ("deep", (0, 3))), True)

    def test_cut(self):
        self.assertIs(cases_holds(*FOUR, FOUR_TREE), True)
        for number in range(4):
            self.assertIs(cases_holds(4, beginnings(4), 2, number, FOUR_TREE), True)
        self.assertIs(cases_holds(4, beginnings(4), 2, 5, FOUR_TREE), False)
        self.assertIs(cases_holds(4, beginnings(4), 3, 4, FOUR_TREE), False)
        self.assertIs(cases_holds(4, beginnings(4), 1, 4, FOUR_TREE), True)
        self.assertIs(cases_holds(3, beginnings(3), 2, 4, FOUR_TREE), False)
        self.assertIs(cases_holds(5, beginnings(4), 2, 4, FOUR_TREE), True)

    def test_branch_k_is_cut_behind_k_and_one_of_its_things(self):
        windows = ((1, 4),)
        told = [((2, 4),), ((1, 2), (3, 4)), ((1, 3),)]
        for at in range(3):
            for parts in told:
                for part in parts:
                    branches = tuple(("deep", part) if k == at else MANY for k in range(3))
                    good = part in told[at]
                    self.assertIs(cases_holds(5, windows, 1, 0, ("cut", (1, 4), branches)), good)

    def test_things_alone_are_not_wanted(self):
        self.assertIs(cases_holds(2, ((0, 1),), 5, 1, ("cut", (0, 1), (MANY,))), True)
        self.assertIs(cases_holds(2, ((0, 1),), 5, 2, ("cut", (0, 1), (MANY,))), False)
        for part in ((0, 0), (1, 1)):
            self.assertIs(cases_holds(2, ((0, 1),), 0, 0, ("cut", (0, 1), (("deep", part),))), False)

    def test_what_is_cut_stays_wanted(self):
        self.assertIs(cases_holds(3, ((0, 2),), 5, 2, ("cut", (0, 2), (MANY, MANY))), True)
        self.assertIs(cases_holds(3, ((0, 2),), 5, 3, ("cut", (0, 2), (MANY, MANY))), False)
        self.assertIs(cases_holds(3, ((0, 2),), 1, 9, ("cut", (0, 2), (("deep", (0, 2)),) * 2)), True)

    def test_cut_twice_on_the_way_down(self):
        again = ("cut", (0, 1), (MANY,))
        self.assertIs(cases_holds(2, ((0, 1),), 5, 0, again), True)
        self.assertIs(cases_holds(2, ((0, 1),), 5, 0, ("cut", (0, 1), (again,))), False)
        between = ("cut", (1, 2), (again,))
        self.assertIs(cases_holds(3, ((0, 1), (1, 2)), 5, 0, between), True)
        self.assertIs(cases_holds(3, ((0, 1), (1, 2)), 5, 0, ("cut", (0, 1), (between,))), False)

    def test_cut_in_two_branches_is_not_twice(self):
        within = ("cut", (3, 4), (MANY,))
        self.assertIs(cases_holds(5, ((0, 2), (3, 4)), 5, 3, ("cut", (0, 2), (within, within))), True)

    def test_a_branch_leaves_nothing_behind_for_the_next_one(self):
        # (1, 2) is wanted in the first branch alone, (0, 1) in the second alone.
        self.assertIs(cases_holds(3, ((0, 2),), 1, 9, ("cut", (0, 2), (("deep", (1, 2)), ("deep", (1, 2))))), False)
        # Two windows are wanted in each branch, never three.
        self.assertIs(cases_holds(3, ((0, 2),), 9, 3, ("cut", (0, 2), (MANY, MANY))), False)
        # The limit of (0, 1) is lesser in the second branch alone.
        windows = ((0, 1), (0, 2))
        tree = ("cut", (0, 2), (MANY, ("deep", (0, 1))))
        self.assertIs(cases_holds(3, windows, 1, 3, tree), True)
        self.assertIs(cases_holds(3, windows, 1, 2, ("cut", (0, 2), (("deep", (0, 1)), MANY))), False)
        self.assertIs(cases_holds(4, ((0, 1), (0, 3)), 2, 0, ("cut", (0, 3), (MANY, MANY, ("deep", (0, 1))))), False)

    def test_the_lesser_limit_counts(self):
        # (0, 1) has the limit 2 at the top, 1 as a part; another part of a greater limit doesn't raise it again.
        windows = ((0, 2), (0, 1), (0, 5))
        tree = ("cut", (0, 2), (MANY, ("cut", (0, 5), (MANY, ("deep", (0, 1)), MANY, MANY, MANY))))
        self.assertIs(cases_holds(6, windows, 1, 0, tree), True)
        self.assertIs(cases_holds(6, windows, 2, 0, tree), False)

    def test_a_lesser_limit_is_handed_on_to_parts_of_what_was_cut(self):
        # (0, 3) is cut into (0, 2) and a thing; then (0, 4) is cut into (0, 3) and a thing, so (0, 2) gets 1.
        tree = ("cut", (0, 3), (MANY, MANY, ("cut", (0, 4), (MANY, MANY, MANY, ("deep", (0, 2))))))
        self.assertIs(cases_holds(5, ((0, 3), (0, 4)), 3, 0, tree), True)
        self.assertIs(cases_holds(5, ((0, 3), (0, 4)), 4, 0, tree), False)
        # Where (0, 4) is cut elsewhere (0, 3) gets no lesser limit, and so (0, 2) doesn't.
        for at in range(3):
            branches = tuple(("deep", (0, 2)) if k == at else MANY for k in range(4))
            other = ("cut", (0, 3), (MANY, MANY, ("cut", (0, 4), branches)))
            self.assertIs(cases_holds(5, ((0, 3), (0, 4)), 3, 0, other), False)

    def test_handed_on_over_several(self):
        windows = ((0, 8), (0, 7), (0, 6), (0, 5))
        tree = ("deep", (0, 4))
        for window in ((0, 8), (0, 7), (0, 6), (0, 5)):
            tree = ("cut", window, (MANY,) * (window[1] - 1) + (tree,))
        self.assertIs(cases_holds(9, windows, 6, 0, tree), True)
        self.assertIs(cases_holds(9, windows, 7, 0, tree), False)


class Changed(unittest.TestCase):
    def trees(self):
        for width in range(2, 8):
            for depth in range(1, 6):
                if error_of(fewest, width, beginnings(width), depth) is None:
                    net, tree = fewest(width, beginnings(width), depth)
                    yield width, beginnings(width), depth, len(net[1]), tree
        dice = random.Random(81)
        for trial in range(60):
            width = dice.randrange(3, 7)
            some = [(first, last) for first in range(width) for last in range(first, width)]
            windows = tuple(dice.choice(some) for step in range(dice.randrange(1, 6)))
            depth = max((last - first).bit_length() for first, last in windows)
            net, tree = fewest(width, windows, depth)
            yield width, windows, depth, len(net[1]), tree

    def test_one_place_changed(self):
        dice = random.Random(82)
        seen = {True: 0, False: 0}
        for width, windows, depth, number, tree in self.trees():
            self.assertIs(cases_holds(width, windows, depth, number, tree), True)
            self.assertIs(slow_right(windows, depth, number, tree, {}), True)
            places = list(tree_places(tree))
            for path in dice.sample(places, min(12, len(places))):
                for other in other_trees(dice, at_path(tree, path), width):
                    new = changed_at(tree, path, other)
                    if other[0] == "cut" and other[2][:1] == ("cut",):
                        good = False
                    else:
                        good = slow_right(windows, depth, number, new, {})
                    seen[good] += 1
                    self.assertIs(cases_holds(width, windows, depth, number, new), good)
        self.assertGreater(min(seen.values()), 100)

    def test_numbers_and_depths_changed(self):
        for width, windows, depth, number, tree in self.trees():
            for other in (0, number - 1, number + 1, 1000):
                if other >= 0:
                    good = slow_right(windows, depth, other, tree, {})
                    self.assertIs(cases_holds(width, windows, depth, other, tree), good)
            for other in (0, depth - 1, depth + 1, 1000):
                if other >= 0:
                    good = slow_right(windows, other, number, tree, {})
                    self.assertIs(cases_holds(width, windows, other, number, tree), good)

    def test_random_trees_with_cuts_handed_on(self):
        dice = random.Random(83)
        seen = {True: 0, False: 0}

        def random_tree(windows, depth, cuts, room):
            limits = limits_of(windows, depth, cuts)
            free = [window for window in sorted(limits) if window not in cuts]
            deep = [w for w in sorted(limits) if limits[w] < 1 or w[1] - w[0] + 1 > 2 ** limits[w]]
            if room == 0 or not free or dice.random() < 0.1:
                return ("deep", dice.choice(deep if deep and dice.random() < 0.95 else sorted(limits)))
            window = dice.choice(free)
            return ("cut", window, tuple(
                random_tree(windows, depth, {**cuts, window: behind}, room - 1) if dice.random() < 0.5 else MANY
                for behind in range(window[0], window[1])))

        for trial in range(1500):
            width = dice.randrange(3, 10)
            some = [(first, last) for first in range(width) for last in range(first + 1, width)]
            windows = tuple(dice.choice(some) for step in range(dice.randrange(1, 5)))
            depth = dice.randrange(5)
            tree = random_tree(windows, depth, {}, 5)
            good = slow_right(windows, depth, 0, tree, {})
            seen[good] += 1
            self.assertIs(cases_holds(width, windows, depth, 0, tree), good)
        self.assertGreater(min(seen.values()), 100)


class Limits(unittest.TestCase):
    def test_depths_of_trees(self):
        for count in (1, 10, 62, 63, 64, 68, 69):
            windows, tree = chain_of_cuts(count)
            self.assertIs(cases_holds(64, windows, 9, 0, tree), True)
            self.assertIs(cases_holds(64, windows, 9, 1000, tree), False)
        for count in (70, 71, 100):
            windows, tree = chain_of_cuts(count)
            self.assertIs(cases_holds(64, windows, 9, 0, tree), False)

    def test_parts_of_trees(self):
        for count in (3970, 3971, 19999, 20000):
            self.assertEqual(tree_parts(tree_of_parts(count)), count)
            self.assertIs(cases_holds(64, beginnings(64), 9, 0, tree_of_parts(count)), True)
            self.assertIs(cases_holds(64, beginnings(64), 9, 64, tree_of_parts(count)), False)
        for count in (20001, 20002, 21000):
            self.assertEqual(tree_parts(tree_of_parts(count)), count)
            self.assertIs(cases_holds(64, beginnings(64), 9, 0, tree_of_parts(count)), False)

    def test_deep_ones_are_parts_too(self):
        # Within 0 each window is too deep, so leaves of both kinds are right.
        for count in (20000, 20001):
            tree = tree_of_parts(count)
            row = tree[2][62][2]
            for leaves in (MANY, ("deep", (0, 1)), ("deep", (0, 63))):
                mixed = changed_at(tree, (2, 62, 2), row[:-1] + (leaves,))
                self.assertEqual(tree_parts(mixed), count)
                self.assertIs(cases_holds(64, beginnings(64), 0, 0, mixed), count == 20000)

    def test_widths(self):
        for width in (1, 2, 64):
            self.assertIs(cases_holds(width, ((0, 0),), 0, 0, MANY), True)
        for wrong in NO_NUMBERS + DEEP + (0, -1, 65, 66, BIG, -BIG):
            self.assertIs(cases_holds(wrong, ((0, 0),), 0, 0, MANY), False)
            self.assertIs(cases_holds(wrong, (), 0, 0, MANY), False)

    def test_depths_and_numbers(self):
        for good in (0, 1, 999, 1000):
            self.assertIs(cases_holds(2, ((0, 1),), good, 0, MANY), True)
            self.assertIs(cases_holds(2, ((0, 1),), 0, good, ("deep", (0, 1))), True)
        for wrong in NO_NUMBERS + DEEP + (-1, -2, 1001, 1002, BIG, -BIG):
            self.assertIs(cases_holds(2, ((0, 1),), wrong, 0, MANY), False)
            self.assertIs(cases_holds(2, ((0, 1),), wrong, 0, ("deep", (0, 1))), False)
            self.assertIs(cases_holds(2, ((0, 1),), 0, wrong, MANY), False)
            self.assertIs(cases_holds(2, ((0, 1),), 0, wrong, ("deep", (0, 1))), False)

    def test_many_windows(self):
        windows = tuple((first, last) for first in range(64) for last in range(first, 64))[:2000]
        wanted = len([window for window in windows if window[0] < window[1]])
        self.assertIs(cases_holds(64, windows, 6, 1000, MANY), True)
        self.assertGreater(wanted, 1000)


class Anything(unittest.TestCase):
    def test_wrong_windows(self):
        wrongs = NO_TUPLES + DEEP + (
            ((0,),), ((0, 1, 1),), ([0, 1],), ((1, 0),), ((0, 4),), ((-1, 0),), ((4, 4),), ((0, True),), ((False, 1),),
            ((0, None),), (("0", 1),), ("01",), (None,), (0, 1), ((0, BIG),), ((0, 1), None), ((0, 1), (3, 2)),
            ((0, deep_tuple(150)),), (deep_list(158),), [(0, 1)], {(0, 1): 1})
        for wrong in wrongs:
            self.assertIs(cases_holds(4, wrong, 0, 0, MANY), False)
            self.assertIs(cases_holds(4, wrong, 0, 0, ("deep", (0, 1))), False)
        self.assertIs(cases_holds(4, ((0, 1), (2, 3)), 0, 0, MANY), True)

    def test_no_trees(self):
        wrongs = NO_TUPLES + DEEP + (
            (), ("many", ()), ("many", 0), ("Many",), "many", ["many"], (("many",),), (None,), (0,), ({},), ("deep",),
            ("deep", (0, 1), ()), ("deep", 0, 1), ["deep", (0, 1)], ("Deep", (0, 1)), ("cut",), ("cut", (0, 1)),
            ("cut", (0, 1), (MANY,), ()), ("cut", (0, 1), [MANY]), ("cut", (0, 1), MANY), ("cut", (0, 1), None),
            ("cut", (0, 1), {0: MANY}), ("cut", (0, 1), ()), ("cut", (0, 1), (MANY, MANY)), ("cut", (0, 1), "m"),
            ("cut", (MANY,), (0, 1)), ("Cut", (0, 1), (MANY,)), ["cut", (0, 1), (MANY,)], ("many", (0, 1)),
            ("cut", (0, 1), (None,)), ("cut", (0, 1), (["many"],)), ("cut", (0, 1), (("many", 1),)))
        for wrong in wrongs:
            self.assertIs(cases_holds(2, ((0, 1),), 0, 0, wrong), False)
            self.assertIs(cases_holds(2, ((0, 1),), 0, 0, ("cut", (0, 1), (wrong,))), False)
            for at in range(3):
                branches = FOUR_TREE[2][:at] + (wrong,) + FOUR_TREE[2][at + 1:]
                self.assertIs(cases_holds(*FOUR, ("cut", (0, 3), branches)), False)

    def test_wrong_windows_in_trees(self):
        wrongs = NO_TUPLES + DEEP + (
            (), (0,), (0, 1, 1), [0, 1], (1, 0), (0, 2), (-1, 1), (0, True), (False, 1), (False, True), (0, None),
            ("0", 1), (0, "1"), (0, [1]), (0, (1,)), (0, {}), ((0, 1),), (0, BIG), (0, deep_tuple(150)),
            (deep_dict(150), 1))
        self.assertIs(cases_holds(2, ((0, 1),), 0, 0, ("deep", (0, 1))), True)
        self.assertIs(cases_holds(2, ((0, 1),), 0, 0, ("cut", (0, 1), (MANY,))), True)
        for wrong in wrongs:
            self.assertIs(cases_holds(2, ((0, 1),), 0, 0, ("deep", wrong)), False)
            self.assertIs(cases_holds(2, ((0, 1),), 0, 0, ("cut", wrong, (MANY,))), False)
            self.assertIs(cases_holds(2, ((0, 1),), 0, 0, ("cut", wrong, ())), False)
            self.assertIs(cases_holds(2, ((0, 1),), 0, 0, ("cut", (0, 1), (("deep", wrong),))), False)

    def test_deep_trees(self):
        for depth in (70, 71, 150):
            tree = MANY
            for step in range(depth):
                tree = ("cut", (0, 1), (tree,))
            self.assertIs(cases_holds(2, ((0, 1),), 0, 0, tree), False)

    def test_the_same_tree_held_twice(self):
        for turn in range(3):
            self.assertIs(cases_holds(*FOUR, FOUR_TREE), True)
            self.assertIs(cases_holds(4, beginnings(4), 3, 4, FOUR_TREE), False)


if __name__ == "__main__":
    unittest.main()
