"""[8] and [2] of all functions together: what is handed in isn't changed, the same call tells the same each time."""

import copy
import itertools
import unittest

from sumnets.behind import behind
from sumnets.bounds import sum_holds, sum_paper
from sumnets.building import built, built_holds
from sumnets.cases import cases_holds
from sumnets.desk import Desk
from sumnets.errors import NetError
from sumnets.fewest import fewest
from sumnets.joinings import is_thing, joined, look_at_joining
from sumnets.kept import Kept
from sumnets.keptparts import KeptParts
from sumnets.least import fewest_rounds, prices_hold
from sumnets.levels import depth_of, least_depth, levels_hold, levels_of, longest_way, way_holds
from sumnets.merged import merged
from sumnets.nets import look_at_net
from sumnets.outs import lengths_of, most_out, outs_of
from sumnets.papers import depths_in, knots_in, width_of
from sumnets.parting import parted
from sumnets.rounds import least_rounds, rounds_hold, rounds_of, rounds_told
from sumnets.rows import beginnings_told, row_joined, window_told
from sumnets.rules import by_blocks, by_halves, by_one, by_pairs, by_steps, by_twos, spared
from sumnets.spans import spans_hold, spans_of, tells, tells_beginnings
from sumnets.tables import clash_holds, clash_of
from sumnets.telling import all_told, told
from sumnets.texts import net_read, net_shown
from sumnets.trimmed import needed, trimmed
from sumnets.turning import turned_net
from sumnets.windows import moving, windows_net
from tests.samples import BIG, MINUS, ONE, T, deep_dict, deep_list, deep_tuple, error_of


def kept_told(net, joining, things):
    """What a net tells that is kept."""
    kept = Kept(net, joining, things)
    return kept.told(), kept.knots_told(), kept.joins()


def kept_changed(place, thing):
    """What is joined anew in a net that is kept, and what it tells then."""
    kept = Kept((2, ((0, 1),), (0, 2)), ("plus",), (1, 2))
    return kept.change(place, thing), kept.told()


def parts_told(net, joining, things, begins):
    """What is told of parts that are kept."""
    kept = KeptParts(net, joining, things, begins)
    return kept.told(), kept.begins(), kept.parts(), kept.joins()


def parts_changed(place, thing):
    """What is joined anew in parts that are kept, and what is told of them then."""
    kept = KeptParts((2, ((0, 1),), (0, 2)), ("plus",), (1, 2), ())
    return kept.change(place, thing), kept.told()


def part_begun(place):
    """What is joined anew where a part begins, and what is told then."""
    kept = KeptParts((2, ((0, 1),), (0, 2)), ("plus",), (1, 2), ())
    return kept.begin(place), kept.told()


def part_united(place):
    """What is joined anew where a part goes on, and what is told then."""
    kept = KeptParts((2, ((0, 1),), (0, 2)), ("plus",), (1, 2), (1,))
    return kept.unite(place), kept.told()


def said(row):
    """What a desk answers."""
    return Desk().say(row)


CHECKERS = {
    clash_holds: 2, spans_hold: 2, tells: 2, tells_beginnings: 1, levels_hold: 2, way_holds: 2, built_holds: 2,
    sum_holds: 2, cases_holds: 5, rounds_hold: 3, prices_hold: 4,
}
REFUSING = {
    look_at_joining: 1, is_thing: 2, joined: 3, clash_of: 1, row_joined: 2, beginnings_told: 2, window_told: 3,
    look_at_net: 1, spans_of: 1, told: 3, all_told: 3, levels_of: 1, depth_of: 1, longest_way: 1, least_depth: 1,
    outs_of: 1, most_out: 1, lengths_of: 1, needed: 1, trimmed: 1, merged: 1, width_of: 1, knots_in: 1, depths_in: 1,
    built: 1, by_steps: 1, by_one: 1, by_halves: 1, by_pairs: 1, by_twos: 1, spared: 2, by_blocks: 2, sum_paper: 1,
    fewest: 3, turned_net: 1, behind: 2, windows_net: 2, moving: 2, kept_told: 3, kept_changed: 2, rounds_of: 2,
    least_rounds: 2, rounds_told: 4, net_shown: 1, net_read: 1, said: 1, parted: 2, fewest_rounds: 2, parts_told: 4,
    parts_changed: 2, part_begun: 1, part_united: 1,
}
# Right things of each kind, and wrong ones that could be changed by whoever gets them.
HANDED = [
    ("plus",), ("table", MINUS), (1, 2), (0, 1), (2, ((0, 1),), (0, 2)), 1, BIG, True, None, "rows", [], ["plus"],
    {"rows": [1]}, ([1], {2: [3]}), [2, [[0, 1]], [0, 2]], (2, [(0, 1)], [0, 2]), deep_list(160), deep_tuple(160),
    deep_dict(160), (), T, ("blocks", T, (T, ONE)), ["steps", 2], ("blocks", T, [T, T]), 2, ((0, 0), (0, 1)),
    [(0, 1)], ("many",), ("cut", (0, 1), (("many",),)), ("cut", [0, 1], [["many"]]), ("sum", (2,), (2,), ()),
    ("sum", [2], [2], []), ((2,),), ([2],), (1,), [1], (((), 1), ((2,), 0)), ([[], 1], [[2], 0]),
    "net 1\nends 0\n", "names",
]
# Right ones for what takes too many arguments to try all: then two at a time are others.
RIGHT = {
    cases_holds: (2, ((0, 1),), 1, 1, ("cut", (0, 1), (("many",),))),
    rounds_told: ((2, ((0, 1),), (0, 2)), ("plus",), (1, 2), ((2,),)),
    parts_told: ((2, ((0, 1),), (0, 2)), ("plus",), (1, 2), (1,)),
    prices_hold: ((2, ((0, 1),), (0, 2)), 1, 1, (((), 1), ((2,), 0))),
}


def outcome(call, arguments):
    """What a call tells, or the class of its error."""
    error = error_of(call, *arguments)
    return (type(error), None) if error else (None, call(*arguments))


class HandedIn(unittest.TestCase):
    def calls(self, counts):
        for call, count in counts.items():
            if call not in RIGHT:
                for arguments in itertools.product(HANDED, repeat=count):
                    yield call, arguments
                continue
            for places in itertools.combinations(range(count), 2):
                for others in itertools.product(HANDED, repeat=2):
                    arguments = list(RIGHT[call])
                    for place, other in zip(places, others):
                        arguments[place] = other
                    yield call, tuple(arguments)

    def test_nothing_is_changed(self):
        before = copy.deepcopy(HANDED)
        for call, arguments in self.calls({**CHECKERS, **REFUSING}):
            outcome(call, arguments)
        self.assertEqual(HANDED, before)

    def test_the_same_each_time(self):
        for call, arguments in self.calls({**CHECKERS, **REFUSING}):
            self.assertEqual(outcome(call, arguments), outcome(call, arguments))

    def test_checkers_refuse_nothing(self):
        for call, arguments in self.calls(CHECKERS):
            self.assertIn(call(*arguments), (True, False))
            self.assertIsInstance(call(*arguments), bool)

    def test_the_others_refuse_by_their_own_errors_alone(self):
        for call, arguments in self.calls(REFUSING):
            error = error_of(call, *arguments)
            if error is not None:
                self.assertIs(type(error).__base__, NetError)


if __name__ == "__main__":
    unittest.main()
