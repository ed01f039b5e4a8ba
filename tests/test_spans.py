"""[16], [17], [18], and [2] as far as it speaks of these checkers."""

import random
import unittest

from sumnets.errors import NetError, NoNet, NotBeside
from sumnets.rows import beginnings
from sumnets.spans import spans_hold, spans_of, tells, tells_beginnings
from tests.samples import (
    BIG, DEEP, NETS_NOT_BESIDE, NO_TUPLES, WRONG_NETS, error_of, one_by_one_net, random_net, random_right_net,
    stepped_net)

NET = (4, ((0, 1), (2, 3), (4, 2), (4, 5), (1, 2)), (0, 4, 6, 7))
SPANS = ((0, 1), (2, 3), (0, 2), (0, 3), (1, 2))
ENDS = ((0, 0), (0, 1), (0, 2), (0, 3))


def changed(windows):
    """Tuples of windows that aren't just these."""
    yield windows[:-1]
    yield windows + windows[-1:]
    yield list(windows)
    yield (windows,)
    yield tuple(list(window) for window in windows)
    for at, (first, last) in enumerate(windows):
        wrongs = [
            (first, last + 1), (first + 1, last), (last + 1, first), (first,), (first, last, last), [first, last],
            (first, None), (None, last), (str(first), last), (first, (last,)), None, first, {}, (), True, (-1, last)]
        wrongs += [(bool(first), last)] if first < 2 else []
        wrongs += [(first, bool(last))] if last < 2 else []
        for wrong in wrongs + [BIG, (BIG, BIG)] + list(DEEP):
            yield windows[:at] + (wrong,) + windows[at + 1:]


class SpansOf(unittest.TestCase):
    def test_ordinary_nets(self):
        self.assertEqual(spans_of(NET), list(SPANS))
        self.assertEqual(spans_of((1, (), (0,))), [])
        self.assertEqual(spans_of((3, ((1, 2), (0, 3)), (4,))), [(1, 2), (0, 2)])
        self.assertIsInstance(spans_of(NET), list)

    def test_a_net_of_the_greatest_width(self):
        self.assertEqual(spans_of(one_by_one_net(64)), [(0, last) for last in range(1, 64)])

    def test_needless_knots_and_knots_told_twice(self):
        net = (2, ((0, 1),) * 1000, (2,))
        self.assertEqual(spans_of(net), [(0, 1)] * 1000)

    def test_random_nets(self):
        dice = random.Random(4)
        for trial in range(100):
            net, spans, ends = random_right_net(dice, dice.randrange(1, 12), dice.randrange(12))
            self.assertEqual(spans_of(net), list(spans))

    def test_not_beside(self):
        for net, knot in NETS_NOT_BESIDE:
            error = error_of(spans_of, net)
            self.assertIs(type(error), NotBeside)
            self.assertIsInstance(error, NetError)
            self.assertEqual(error.knot, knot)

    def test_the_first_knot_not_beside(self):
        dice = random.Random(5)
        for trial in range(300):
            net, spans, ends = random_right_net(dice, dice.randrange(2, 9), dice.randrange(1, 12))
            width, knots, numbers = net
            at = dice.randrange(len(knots))
            pair = (dice.randrange(width + at), dice.randrange(width + at))
            everyone = [(place, place) for place in range(width)] + list(spans)
            if everyone[pair[0]][1] + 1 == everyone[pair[1]][0]:
                continue
            error = error_of(spans_of, (width, knots[:at] + (pair,) + knots[at + 1:], numbers))
            self.assertIs(type(error), NotBeside)
            self.assertEqual(error.knot, width + at)

    def test_no_net(self):
        for wrong in WRONG_NETS:
            self.assertIs(type(error_of(spans_of, wrong)), NoNet)

    def test_no_net_goes_first(self):
        self.assertIs(type(error_of(spans_of, (2, ((1, 0),), (5,)))), NoNet)
        self.assertIs(type(error_of(spans_of, (2, ((1, 0), (7, 7)), (0,)))), NoNet)

    def test_lists_are_built_anew(self):
        spans_of(NET).clear()
        self.assertEqual(spans_of(NET), list(SPANS))


class SpansHold(unittest.TestCase):
    def test_just_the_spans_hold(self):
        self.assertIs(spans_hold(NET, SPANS), True)
        self.assertIs(spans_hold((1, (), (0,)), ()), True)
        self.assertIs(spans_hold(one_by_one_net(64), beginnings(64)[1:]), True)
        for wrong in changed(SPANS):
            self.assertIs(spans_hold(NET, wrong), False)

    def test_another_order(self):
        self.assertIs(spans_hold(NET, SPANS[::-1]), False)

    def test_what_is_told_holds(self):
        dice = random.Random(6)
        for trial in range(50):
            net, spans, ends = random_right_net(dice, dice.randrange(1, 12), dice.randrange(12))
            self.assertIs(spans_hold(net, tuple(spans_of(net))), True)
            self.assertIs(spans_hold(net, spans_of(net)), False)

    def test_anything(self):
        for wrong in NO_TUPLES + DEEP + WRONG_NETS:
            self.assertIs(spans_hold(NET, wrong), False)
            self.assertIs(spans_hold(wrong, SPANS), False)
            self.assertIs(spans_hold(wrong, wrong), False)
            self.assertIs(spans_hold(wrong, ()), False)

    def test_nets_that_are_not_right(self):
        for net, knot in NETS_NOT_BESIDE:
            right_ones = knot - net[0]
            spans = tuple(spans_of((net[0], net[1][:right_ones], (0,))))
            self.assertIs(spans_hold(net, spans), False)
            self.assertIs(spans_hold(net, spans + ((0, 0),) * (len(net[1]) - right_ones)), False)
        self.assertIs(spans_hold((3, ((0, 2),), (3,)), ((0, 2),)), False)
        self.assertIs(spans_hold((2, ((0, 0),), (2,)), ((0, 0),)), False)


class Tells(unittest.TestCase):
    def test_just_the_ends_spans(self):
        self.assertIs(tells(NET, ENDS), True)
        for wrong in changed(ENDS):
            self.assertIs(tells(NET, wrong), False)
        self.assertIs(tells(NET, ENDS[::-1]), False)
        self.assertIs(tells(NET, ()), False)

    def test_other_windows(self):
        self.assertIs(tells((4, ((1, 2), (4, 3)), (5, 4, 0, 4)), ((1, 3), (1, 2), (0, 0), (1, 2))), True)
        self.assertIs(tells((4, ((1, 2), (4, 3)), (5, 4, 0, 4)), ((1, 3), (1, 2), (0, 0), (1, 3))), False)
        self.assertIs(tells((1, (), (0,) * 400), ((0, 0),) * 400), True)
        self.assertIs(tells((1, (), (0,) * 400), ((0, 0),) * 399), False)
        self.assertIs(tells((1, (), (0,) * 401), ((0, 0),) * 401), False)

    def test_random_nets(self):
        dice = random.Random(7)
        for trial in range(100):
            net, spans, ends = random_right_net(dice, dice.randrange(1, 12), dice.randrange(12))
            self.assertIs(tells(net, ends), True)

    def test_a_needless_knot_that_is_not_right(self):
        width, knots, ends = NET
        self.assertIs(tells((width, knots + ((0, 2),), ends), ENDS), False)
        self.assertIs(tells((width, knots + ((0, 1),), ends), ENDS), True)

    def test_nets_that_are_not_right(self):
        self.assertIs(tells((2, ((0, 0),), (0, 1)), ((0, 0), (1, 1))), False)
        self.assertIs(tells((3, ((0, 2),), (3,)), ((0, 2),)), False)
        self.assertIs(tells((2, ((1, 0),), (2,)), ((0, 1),)), False)
        for net, knot in NETS_NOT_BESIDE:
            self.assertIs(tells(net, ((0, 0),) * len(net[2])), False)

    def test_anything(self):
        for wrong in NO_TUPLES + DEEP + WRONG_NETS:
            self.assertIs(tells(NET, wrong), False)
            self.assertIs(tells(wrong, ENDS), False)
            self.assertIs(tells(wrong, ((0, 0),)), False)
            self.assertIs(tells(wrong, wrong), False)


class TellsBeginnings(unittest.TestCase):
    def test_nets_that_do(self):
        self.assertIs(tells_beginnings(NET), True)
        for width in range(1, 65):
            self.assertIs(tells_beginnings(one_by_one_net(width)), True)
            self.assertIs(tells_beginnings(stepped_net(width)), True)

    def test_nets_that_do_not(self):
        width, knots, ends = NET
        for other in (ends[:-1], ends + ends[-1:], ends[::-1], (1,) + ends[1:], (0, 4, 6, 6), (0, 4, 6, 8), (0,)):
            self.assertIs(tells_beginnings((width, knots, other)), False)
        self.assertIs(tells_beginnings((2, (), (0, 1))), False)

    def test_nets_that_are_not_right(self):
        width, knots, ends = NET
        self.assertIs(tells_beginnings((width, knots + ((1, 0),), ends)), False)
        for net, knot in NETS_NOT_BESIDE:
            self.assertIs(tells_beginnings(net), False)

    def test_anything(self):
        for wrong in NO_TUPLES + DEEP + WRONG_NETS:
            self.assertIs(tells_beginnings(wrong), False)

    def test_as_tells_tells(self):
        dice = random.Random(8)
        for trial in range(200):
            net = random_net(dice, dice.randrange(1, 4), dice.randrange(4))
            self.assertIs(tells_beginnings(net), tells(net, beginnings(net[0])))


if __name__ == "__main__":
    unittest.main()
