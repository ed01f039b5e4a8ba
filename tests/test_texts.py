"""[38]: nets shown as texts, and read back."""

import random
import unittest

from sumnets.errors import NetError, NoNet, NoText
from sumnets.texts import net_read, net_shown
from tests.nets_made import rule_nets
from tests.samples import (
    BIG, DEEP, NETS_NOT_BESIDE, NO_TUPLES, WRONG_NETS, doubling_chain, error_of, one_by_one_net, random_net,
    random_right_net, stepped_net)

NET = (4, ((0, 1), (2, 3), (4, 2), (4, 5)), (0, 4, 6, 7))
TEXT = "net 4\n0 1\n2 3\n4 2\n4 5\nends 0 4 6 7\n"
MOST = (64, ((0, 1),) * 1000, (1063,) * 400)
# Right and not, the least and the most.
NETS = [NET, (1, (), (0,)), (64, (), (63,)), (3, (), (2, 0, 2)), MOST, doubling_chain(1000), stepped_net(64),
        one_by_one_net(64), (64, tuple((number, number - 1) for number in range(63, 1063)), (1063,) * 400)]


def slow_shown(net):
    """The words of the document."""
    width, knots, ends = net
    text = "net " + str(width) + "\n"
    for left, right in knots:
        text += str(left) + " " + str(right) + "\n"
    text += "ends"
    for end in ends:
        text += " " + str(end)
    return text + "\n"


def all_nets(dice):
    nets = NETS + [net for net, knot in NETS_NOT_BESIDE]
    nets += [net for width in (1, 2, 3, 9, 30) for net in rule_nets(width)]
    nets += [random_net(dice, dice.randrange(1, 65), dice.randrange(30)) for trial in range(100)]
    return nets + [random_right_net(dice, dice.randrange(1, 10), dice.randrange(12))[0] for trial in range(50)]


class Shown(unittest.TestCase):
    def test_by_hand(self):
        self.assertEqual(net_shown(NET), TEXT)
        self.assertEqual(net_shown((1, (), (0,))), "net 1\nends 0\n")
        self.assertEqual(net_shown((3, (), (2, 0, 2))), "net 3\nends 2 0 2\n")
        self.assertEqual(net_shown((2, ((1, 0),), (2,))), "net 2\n1 0\nends 2\n")

    def test_sign_by_sign(self):
        for net in all_nets(random.Random(150)):
            text = net_shown(net)
            self.assertIs(type(text), str)
            self.assertEqual(text, slow_shown(net))

    def test_no_net(self):
        for wrong in WRONG_NETS:
            error = error_of(net_shown, wrong)
            self.assertIs(type(error), NoNet)
            self.assertIsInstance(error, NetError)


class Read(unittest.TestCase):
    def is_no_text(self, text):
        error = error_of(net_read, text)
        self.assertIs(type(error), NoText, repr(text)[:200])
        self.assertIsInstance(error, NetError)

    def test_by_hand(self):
        self.assertEqual(net_read(TEXT), NET)
        self.assertEqual(net_read("net 1\nends 0\n"), (1, (), (0,)))
        self.assertEqual(net_read("net 2\n1 0\n2 2\nends 3 0\n"), (2, ((1, 0), (2, 2)), (3, 0)))

    def test_back_to_the_net(self):
        for net in all_nets(random.Random(151)):
            again = net_read(net_shown(net))
            self.assertEqual(again, net)
            self.assertIs(type(again), tuple)
            self.assertIs(type(again[1]), tuple)
            self.assertIs(type(again[2]), tuple)
            self.assertTrue(all(type(knot) is tuple for knot in again[1]))

    def test_a_sign_left_out_or_put_in(self):
        # Whatever is read is just what is shown of it; all else is refused.
        seen = set()
        for text in (TEXT, "net 1\nends 0\n", "net 10\n0 1\n10 2\nends 0 10 11\n"):
            texts = [text[:at] + text[at + 1:] for at in range(len(text))]
            for sign in "\n 0159-+ntesN\t\r_.,\u0661":
                texts += [text[:at] + sign + text[at:] for at in range(len(text) + 1)]
                texts += [text[:at] + sign + text[at + 1:] for at in range(len(text))]
            texts += [text[:at] + text[at + 1] + text[at] + text[at + 2:] for at in range(len(text) - 1)]
            for changed in texts:
                error = error_of(net_read, changed)
                seen.add(type(error))
                if error is None:
                    self.assertEqual(slow_shown(net_read(changed)), changed)
                else:
                    self.assertIs(type(error), NoText)
        self.assertEqual(seen, {NoText, type(None)})

    def test_blanks_and_row_ends(self):
        for wrong in (
                "", "\n", " ", "net", "net 4", "net 4\n", "ends 0\n", "net 1\nends 0", "net 1\nends 0\n\n",
                "\nnet 1\nends 0\n", "net 1\n\nends 0\n", " net 1\nends 0\n", "net 1 \nends 0\n", "net  1\nends 0\n",
                "net 1\n ends 0\n", "net 1\nends 0 \n", "net 1\nends  0\n", "net 1\nends 0\n ", "net 1 ends 0\n",
                "net 1\nends 0\r\n", "net 1\r\nends 0\r\n", "net 1\rends 0\r", "net\t1\nends 0\n", "net 1\nends\t0\n",
                "net 1\x0bends 0\n", "net 1\x0cends 0\n", "net 1\u2028ends 0\n", "net 1\nends\u00a00\n",
                "net 2\n0  1\nends 0\n", "net 2\n 0 1\nends 0\n", "net 2\n0 1 \nends 0\n", "net 2\n0\t1\nends 0\n",
                "net 2\n0 1\n\nends 0\n", "net 2\n0\n1\nends 0\n", "net 2\n0 1ends 0\n", "\ufeffnet 1\nends 0\n"):
            self.is_no_text(wrong)

    def test_numbers(self):
        for wrong in (
                "net 01\nends 0\n", "net 1\nends 00\n", "net 1\nends -0\n", "net 1\nends +0\n", "net +1\nends 0\n",
                "net -1\nends 0\n", "net 2\n00 1\nends 0\n", "net 2\n0 01\nends 0\n", "net 2\n-0 1\nends 0\n",
                "net 2\n0 +1\nends 0\n", "net 2\n0 -1\nends 0\n", "net 1.0\nends 0\n", "net 1\nends 0.0\n",
                "net 0x1\nends 0\n", "net \u0661\nends 0\n", "net 1\nends \u0660\n", "net 2\n0 \u00b9\nends 0\n",
                "net 1_0\nends 0\n", "net one\nends 0\n", "net 1\nends a\n", "net 2\na b\nends 0\n",
                "net True\nends 0\n",
                "net " + "9" * 19000 + "\nends 0\n", "net 1\nends " + "9" * 19000 + "\n",
                "net 2\n0 " + "1" * 5000 + "\nends 0\n", "net 1\nends " + "0" * 19000 + "\n"):
            self.is_no_text(wrong)

    def test_no_nets(self):
        for wrong in (
                "net 0\nends 0\n", "net 65\nends 0\n", "net 1\nends 1\n", "net 1\nends\n", "net 1\nends \n",
                "net 1\n0 1\nends 0\n", "net 2\n0 2\nends 0\n", "net 2\n3 0\nends 0\n", "net 2\n0 1\nends 3\n",
                "net 2\n0\nends 0\n", "net 2\n0 1 1\nends 0\n", "net 2\n0 1\nends 0 3\n", "net 1\n",
                "net 1 1\nends 0\n", "net\nends 0\n", "net \nends 0\n", "Net 1\nends 0\n", "net 1\nEnds 0\n",
                "nets 1\nends 0\n", "net 1\nend 0\n", "ends 0\nnet 1\n", "net 1\nends 0\nends 0\n",
                "net 1\nnet 1\nends 0\n", "net 2\nends 0\n0 1\n", "net 1\nends 0\nnet 1\nends 0\n",
                "net 1\nends" + " 0" * 401 + "\n", "net 2\n" + "0 1\n" * 1001 + "ends 0\n", "1\n0\n", "net1\nends0\n"):
            self.is_no_text(wrong)

    def test_texts_of_20000_signs(self):
        self.assertEqual(net_read("net 1\nends" + " 0" * 400 + "\n"), (1, (), (0,) * 400))
        self.assertEqual(net_read(net_shown(MOST)), MOST)
        for wrong in ("a" * 20000, "\n" * 20000, " " * 20000, "0" * 20000, "net 1\n" + "0 0\n" * 4990 + "ends 0\n",
                      "net 1\nends" + " 0" * 9990 + "\n", "net " * 5000, TEXT * 400, "ends 0\n" * 2800):
            self.assertLessEqual(len(wrong), 20000)
            self.is_no_text(wrong)

    def test_anything(self):
        for wrong in NO_TUPLES + DEEP + (NET, (TEXT,), [TEXT], {TEXT: 0}, BIG, TEXT.split("\n"), True):
            self.is_no_text(wrong)


if __name__ == "__main__":
    unittest.main()
