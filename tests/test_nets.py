"""[15]: the form of nets."""

import unittest

from sumnets.errors import NetError, NoNet
from sumnets.nets import are_knots_of, look_at_net
from tests.samples import NETS_NOT_BESIDE, WRONG_NETS, doubling_chain, error_of, one_by_one_net, stepped_net


class LookAtNet(unittest.TestCase):
    def test_nets(self):
        good = [
            (1, (), (0,)), (2, ((0, 1),), (0, 2)), (2, ((0, 1),), (2, 2, 0, 1, 2)), (3, (), (0, 1, 2)),
            (3, ((0, 1), (3, 2), (1, 2)), (5, 4))]
        for net in good:
            self.assertIsNone(look_at_net(net))

    def test_nets_need_not_be_right(self):
        for net, knot in NETS_NOT_BESIDE:
            self.assertIsNone(look_at_net(net))

    def test_widths(self):
        for width in range(1, 65):
            self.assertIsNone(look_at_net((width, (), (width - 1,))))
            self.assertIsNone(look_at_net(one_by_one_net(width)))
        for width in (0, -1, 65, 66, 1000):
            self.assertIs(type(error_of(look_at_net, (width, (), (0,)))), NoNet)

    def test_knots(self):
        self.assertIsNone(look_at_net(doubling_chain(999)))
        self.assertIsNone(look_at_net(doubling_chain(1000)))
        self.assertIs(type(error_of(look_at_net, doubling_chain(1001))), NoNet)

    def test_ends(self):
        self.assertIsNone(look_at_net((1, (), (0,) * 400)))
        self.assertIs(type(error_of(look_at_net, (1, (), (0,) * 401))), NoNet)
        self.assertIs(type(error_of(look_at_net, (1, (), ()))), NoNet)

    def test_a_knot_is_of_what_stands_before_it(self):
        width, knots, ends = stepped_net(8)
        for place in range(len(knots)):
            for side in range(2):
                for number in (width + place, width + place + 1, 999, -1):
                    pair = list(knots[place])
                    pair[side] = number
                    net = (width, knots[:place] + (tuple(pair),) + knots[place + 1:], ends)
                    self.assertIs(type(error_of(look_at_net, net)), NoNet)
                pair[side] = width + place - 1
                net = (width, knots[:place] + (tuple(pair),) + knots[place + 1:], ends)
                self.assertIsNone(look_at_net(net))

    def test_the_last_knot_may_be_an_end(self):
        self.assertIsNone(look_at_net((2, ((0, 1), (0, 1)), (3,))))
        self.assertIs(type(error_of(look_at_net, (2, ((0, 1), (0, 1)), (4,)))), NoNet)

    def test_wrong_nets(self):
        for wrong in WRONG_NETS:
            with self.subTest(str(wrong)[:80]):
                error = error_of(look_at_net, wrong)
                self.assertIs(type(error), NoNet)
                self.assertIsInstance(error, NetError)


class KnotsOf(unittest.TestCase):
    def test_numbers_of_knots(self):
        net = (3, ((0, 1), (3, 2)), (4,))
        for good in ((), (3,), (4,), (4, 3, 4)):
            self.assertIs(are_knots_of(net, good), True)
        for wrong in ((2,), (5,), (3, 0), (4, -1), (3, True), [3], "3", None, 3, {3: 4}, ((3,),)):
            self.assertIs(are_knots_of(net, wrong), False)
        self.assertIs(are_knots_of((1, (), (0,)), ()), True)
        self.assertIs(are_knots_of((1, (), (0,)), (1,)), False)
        self.assertIs(are_knots_of((1, ((0, 0),), (0,)), (True,)), False)


if __name__ == "__main__":
    unittest.main()
