"""[39], and [8] as far as the desk bears it."""

import itertools
import random
import unittest

from sumnets.behind import behind
from sumnets.building import built
from sumnets.desk import Desk
from sumnets.errors import (
    NetError, NoEnds, NoHands, NoName, NoRow, NoSize, NoSpare, NoThings, NoWidth, TooMany)
from sumnets.levels import depth_of
from sumnets.merged import merged
from sumnets.rounds import least_rounds, rounds_of
from sumnets.rows import beginnings_told
from sumnets.rules import by_blocks, by_halves, by_one, by_pairs, by_steps, by_twos, spared
from sumnets.spans import tells_beginnings
from sumnets.telling import told
from sumnets.texts import net_read, net_shown
from sumnets.trimmed import trimmed
from sumnets.turning import turned_net
from tests.samples import BIG, DEEP, NO_TUPLES, error_of

RULES = {"one": by_one, "steps": by_steps, "halves": by_halves, "pairs": by_pairs, "twos": by_twos}
WORDS = ("plus", "least", "greatest", "first", "last")
# One right row of each form, where a net of width 3 is kept by the names a and b.
RIGHT = (
    "rule a one 3", "rule a steps 3", "rule a halves 3", "rule a pairs 3", "rule a twos 3", "rule a spared 3 1",
    "rule a blocks 3 2", "turn c a", "behind c a b", "trim c a", "merge c a", "drop a", "size a", "tells a", "show a",
    "names", "told a plus 1 -2 3", "told a least 1 2 3", "told a greatest 1 2 3", "told a first 1 2 3",
    "told a last 1 2 3", "rounds a 2")


def desk_with(*rows):
    """A desk to which these rows were said."""
    desk = Desk()
    for row in rows:
        desk.say(row)
    return desk


def some_desk():
    return desk_with("rule a steps 3", "rule b one 3")


def net_at(desk, name):
    return net_read(desk.say("show " + name))


def all_kept(desk):
    """All that a desk keeps."""
    names = desk.say("names")
    return [(name, desk.say("show " + name)) for name in names.split(" ") if name != "-"]


class Answers(unittest.TestCase):
    def test_by_hand(self):
        desk = Desk()
        self.assertEqual(desk.say("names"), "-")
        self.assertEqual(desk.say("rule b steps 4"), "ok")
        self.assertEqual(desk.say("rule a one 3"), "ok")
        self.assertEqual(desk.say("names"), "a b")
        self.assertEqual(desk.say("size a"), "3 2 2")
        self.assertEqual(desk.say("size b"), "4 5 2")
        self.assertEqual(desk.say("tells a"), "yes")
        self.assertEqual(desk.say("show a"), "net 3\n0 1\n3 2\nends 0 3 4\n")
        self.assertEqual(desk.say("told a plus 1 -20 300"), "1 -19 281")
        self.assertEqual(desk.say("behind c a b"), "ok")
        self.assertEqual(desk.say("size c"), "7 11 3")
        self.assertEqual(desk.say("turn d a"), "ok")
        self.assertEqual(desk.say("tells d"), "no")
        self.assertEqual(desk.say("told d plus 1 -20 300"), "281 280 300")
        self.assertEqual(desk.say("rounds a 5"), "2 2")
        self.assertEqual(desk.say("drop a"), "ok")
        self.assertEqual(desk.say("names"), "b c d")

    def test_each_right_row(self):
        for row in RIGHT:
            answer = some_desk().say(row)
            self.assertIs(type(answer), str)
            if row.split(" ")[0] in ("rule", "turn", "behind", "trim", "merge", "drop"):
                self.assertEqual(answer, "ok")
            if row.split(" ")[0] != "show":
                self.assertEqual(answer.split(), answer.split(" "))

    def test_rules(self):
        desk = Desk()
        for width in (1, 2, 3, 7, 16, 33, 64):
            for word, rule in RULES.items():
                self.assertEqual(desk.say(f"rule x {word} {width}"), "ok")
                self.assertEqual(net_at(desk, "x"), built(rule(width)))
            for spare in range(7):
                self.assertEqual(desk.say(f"rule x spared {width} {spare}"), "ok")
                self.assertEqual(net_at(desk, "x"), built(spared(width, spare)))
            for size in (1, 2, 5, 64):
                self.assertEqual(desk.say(f"rule x blocks {width} {size}"), "ok")
                self.assertEqual(net_at(desk, "x"), built(by_blocks(width, size)))
        self.assertEqual(desk.say("names"), "x")

    def test_new_nets(self):
        desk = desk_with("rule a pairs 7", "rule b twos 5", "turn t a", "turn u b")
        one, other, turned = net_at(desk, "a"), net_at(desk, "b"), net_at(desk, "t")
        self.assertEqual(turned, turned_net(one))
        self.assertEqual(desk.say("behind c a b"), "ok")
        self.assertEqual(net_at(desk, "c"), behind(one, other))
        self.assertEqual(desk.say("behind c b a"), "ok")
        self.assertEqual(net_at(desk, "c"), behind(other, one))
        for name in ("a", "b", "c", "t", "u"):
            net = net_at(desk, name)
            self.assertEqual(desk.say("turn x " + name), "ok")
            self.assertEqual(net_at(desk, "x"), turned_net(net))
            self.assertEqual(desk.say("trim x " + name), "ok")
            self.assertEqual(net_at(desk, "x"), trimmed(net))
            self.assertEqual(desk.say("merge x " + name), "ok")
            self.assertEqual(net_at(desk, "x"), merged(net))
            self.assertEqual(net_at(desk, name), net)

    def test_trim_and_merge_that_change_something(self):
        # By steps there are knots whose spans others have too, once two such nets are behind one another.
        desk = desk_with("rule a steps 5", "rule b spared 3 0", "behind c a b", "behind c c b", "merge d c", "trim e d")
        self.assertEqual(net_at(desk, "d"), merged(net_at(desk, "c")))
        self.assertEqual(net_at(desk, "e"), trimmed(net_at(desk, "d")))
        desk = desk_with("rule a one 3", "behind b a a", "turn b b", "trim c b", "merge c c")
        self.assertEqual(net_at(desk, "c"), merged(trimmed(turned_net(behind(built(by_one(3)), built(by_one(3)))))))

    def test_in_its_own_place(self):
        net = built(by_halves(6))
        for row, new in (("turn a a", turned_net(net)), ("trim a a", trimmed(net)), ("merge a a", merged(net)),
                         ("behind a a a", behind(net, net))):
            desk = desk_with("rule a halves 6")
            self.assertEqual(desk.say(row), "ok")
            self.assertEqual(net_at(desk, "a"), new)
            self.assertEqual(desk.say("names"), "a")
        desk = desk_with("rule a halves 6", "rule b one 2", "behind a a b")
        self.assertEqual(net_at(desk, "a"), behind(net, built(by_one(2))))
        desk = desk_with("rule a halves 6", "rule b one 2", "behind a b a")
        self.assertEqual(net_at(desk, "a"), behind(built(by_one(2)), net))

    def test_anew_by_a_name_that_is_kept(self):
        desk = desk_with("rule a one 3", "rule b steps 5", "rule a pairs 9")
        self.assertEqual(net_at(desk, "a"), built(by_pairs(9)))
        self.assertEqual(net_at(desk, "b"), built(by_steps(5)))
        desk.say("turn a b")
        self.assertEqual(net_at(desk, "a"), turned_net(built(by_steps(5))))
        desk.say("rule b one 1")
        self.assertEqual(net_at(desk, "a"), turned_net(built(by_steps(5))))
        self.assertEqual(desk.say("names"), "a b")

    def test_one_net_named_twice(self):
        desk = desk_with("rule a steps 5", "behind b a a")
        self.assertEqual(net_at(desk, "b"), behind(built(by_steps(5)), built(by_steps(5))))

    def test_drop(self):
        desk = some_desk()
        self.assertEqual(desk.say("drop a"), "ok")
        self.assertEqual(desk.say("names"), "b")
        self.assertIs(type(error_of(desk.say, "drop a")), NoName)
        self.assertIs(type(error_of(desk.say, "show a")), NoName)
        self.assertEqual(desk.say("drop b"), "ok")
        self.assertEqual(desk.say("names"), "-")
        self.assertEqual(desk.say("rule a one 1"), "ok")
        self.assertEqual(desk.say("show a"), "net 1\nends 0\n")

    def test_names(self):
        desk = Desk()
        names = ["b", "a", "zz", "abcdefgh", "ab", "aaaaaaaa", "rule", "names", "net", "ok", "told", "z"]
        for name in names:
            desk.say(f"rule {name} one 2")
        self.assertEqual(desk.say("names"), " ".join(sorted(names)))
        self.assertEqual(desk.say("size names"), "2 1 1")
        self.assertEqual(desk.say("drop rule"), "ok")

    def test_sizes_and_tells(self):
        desk = Desk()
        for width in (1, 2, 5, 64):
            for word, rule in RULES.items():
                desk.say(f"rule a {word} {width}")
                net = built(rule(width))
                self.assertEqual(desk.say("size a"), f"{width} {len(net[1])} {depth_of(net)}")
                self.assertEqual(desk.say("tells a"), "yes")
                self.assertEqual(desk.say("show a"), net_shown(net))
                desk.say("turn b a")
                self.assertEqual(desk.say("tells b"), "yes" if tells_beginnings(turned_net(net)) else "no")
        desk.say("rule a one 1")
        desk.say("turn a a")
        self.assertEqual(desk.say("tells a"), "yes")

    def test_told(self):
        dice = random.Random(190)
        for word in WORDS:
            for width in (1, 2, 5, 64):
                desk = desk_with(f"rule a halves {width}", "turn b a")
                things = tuple(dice.choice((0, 5, -5, 999999999, -999999999, 7)) for place in range(width))
                row = " ".join(map(str, things))
                self.assertEqual(
                    desk.say(f"told a {word} {row}"), " ".join(map(str, beginnings_told((word,), things))))
                self.assertEqual(
                    desk.say(f"told b {word} {row}"), " ".join(map(str, told(net_at(desk, "b"), (word,), things))))
        self.assertEqual(desk_with("rule a one 1").say("told a plus 0"), "0")
        self.assertEqual(desk_with("rule a one 2").say("told a plus 1 -1"), "1 0")

    def test_rounds(self):
        desk = desk_with("rule a steps 16", "rule b one 9", "rule c one 1", "turn d a")
        for name in ("a", "b", "c", "d"):
            net = net_at(desk, name)
            for hands in (1, 2, 3, 7, 999, 1000):
                self.assertEqual(
                    desk.say(f"rounds {name} {hands}"), f"{len(rounds_of(net, hands))} {least_rounds(net, hands)}")
        self.assertEqual(desk.say("rounds c 1"), "0 0")

    def test_two_desks(self):
        one, other = some_desk(), Desk()
        self.assertEqual(other.say("names"), "-")
        other.say("rule a one 9")
        self.assertEqual(one.say("size a"), "3 3 2")

    def test_the_same_each_time(self):
        desk = some_desk()
        for row in RIGHT:
            if row != "drop a":
                self.assertEqual(desk.say(row), desk.say(row))


class Refused(unittest.TestCase):
    def is_refused(self, kind, row, desk=None):
        desk = desk or some_desk()
        before = all_kept(desk)
        error = error_of(desk.say, row)
        self.assertIs(type(error), kind, repr(row)[:100])
        self.assertIsInstance(error, NetError)
        self.assertEqual(all_kept(desk), before)

    def test_no_row(self):
        for row in (
                "", " ", "  ", "a", "help", "names a", "names -", "names  ", "Names", "NAMES", "name", "rule", "rule a",
                "rule a one", "rule a one 3 3", "rule a one 3 ", "rule one 3", "rule a One 3", "rule a ones 3",
                "rule a by_one 3", "rule a spared 3", "rule a spared 3 1 1", "rule a blocks 3", "rule a blocks",
                "rule a blocks 3 2 1", "rule a spare 3 1", "rule a steps 3 1", "rule a 3", "rule a 3 one",
                "rule 3 one a",
                "turn", "turn a", "turn a b c", "turn a b ", "behind a", "behind a b", "behind a b a b", "trim",
                "trim a", "trim a b c", "merge", "merge a", "merge a b c", "drop", "drop a b", "drop a ", "size",
                "size a b", "tells", "tells a b", "show", "show a b", "told", "told a", "told a plus", "told a plus ",
                "told a 1 2 3", "told plus 1 2 3", "told a minus 1 2 3", "told a rows 1 2 3", "told a lines 1 2 3",
                "told a Plus 1 2 3", "told a plus 1 2 x", "rounds", "rounds a", "rounds a 2 2", "rounds a b",
                "rounds 2 a", "rounds a two", "Rule a one 3", "built a", "copy a b", "~", "rule\ta\tone\t3"):
            self.is_refused(NoRow, row)

    def test_blanks(self):
        for row in RIGHT:
            words = row.split(" ")
            for at in range(len(words) + 1):
                self.is_refused(NoRow, " ".join(words[:at] + [""] + words[at:]))
            self.is_refused(NoRow, " " + row)
            self.is_refused(NoRow, row + " ")
            self.is_refused(NoRow, row + "\n")
            self.is_refused(NoRow, row.replace(" ", "  ", 1) if " " in row else row + "  ")
            self.is_refused(NoRow, row.replace(" ", "\t") if " " in row else row + "\t")
            self.is_refused(NoRow, row.upper())

    def test_a_word_more_or_fewer(self):
        for row in RIGHT:
            words = row.split(" ")
            for more in ("a", "3", "one", "-1", "x y"):
                # Where things are told one more is another count of them.
                things = words[0] == "told" and more in ("3", "-1")
                self.is_refused(NoThings if things else NoRow, row + " " + more)
            if words[0] != "told" and words != ["names"]:
                for at in range(len(words)):
                    self.is_refused(NoRow, " ".join(words[:at] + words[at + 1:]))

    def test_no_names(self):
        wrong_names = ("abcdefghi", "A", "a1", "1", "a-", "-", "a_b", "a.b", "~", "aB", "\u00e9", "a" * 10000, "a\n")
        for row in RIGHT:
            words = row.split(" ")
            places = [at for at, word in enumerate(words[1:], start=1) if word in ("a", "b", "c")]
            for at in places:
                for wrong in wrong_names:
                    self.is_refused(NoRow, " ".join(words[:at] + [wrong] + words[at + 1:]))

    def test_names_of_one_and_of_eight_letters(self):
        for name in ("a", "z", "abcdefgh", "zzzzzzzz"):
            desk = desk_with(f"rule {name} one 2")
            self.assertEqual(desk.say("names"), name)
            self.assertEqual(desk.say("size " + name), "2 1 1")

    def test_no_numbers(self):
        wrong_numbers = (
            "-1", "-0", "+1", "00", "01", "007", "1234567890", "0000000001", "1.0", "1e1", "x", "-", "0x1", "\u0661",
            "9" * 5000, "-999999999", "1_0", "1,0")
        for row in RIGHT:
            words = row.split(" ")
            if words[0] in ("rule", "rounds"):
                places = [at for at, word in enumerate(words) if word.isdigit()]
                self.assertTrue(places)
                for at in places:
                    for wrong in wrong_numbers:
                        self.is_refused(NoRow, " ".join(words[:at] + [wrong] + words[at + 1:]))

    def test_no_numbers_for_things(self):
        for wrong in ("-0", "+1", "00", "01", "-01", "1234567890", "-1234567890", "1.0", "x", "-", "--1", "\u0661",
                      "9" * 5000):
            for things in (f"{wrong} 2 3", f"1 {wrong} 3", f"1 2 {wrong}", wrong, f"1 2 3 4 {wrong}"):
                self.is_refused(NoRow, "told a plus " + things)
                self.is_refused(NoRow, "told q plus " + things)
        for good in ("0", "-1", "999999999", "-999999999", "100000000"):
            self.assertEqual(some_desk().say(f"told a last {good} {good} {good}"), " ".join([good] * 3))

    def test_no_row_ahead_of_no_name(self):
        for row in ("turn q", "turn q Q", "behind q r", "behind q r S", "behind q R s", "trim q", "size Q", "size q r",
                    "told q plus", "told q minus 1", "told q plus x", "rounds q", "rounds q -1", "rounds q 01",
                    "drop q r", "rule q nine 9", "rule q one x", "show q r", "rounds q x"):
            self.is_refused(NoRow, row)
            self.is_refused(NoRow, row, Desk())

    def test_no_name(self):
        for row in ("turn c q", "turn q q", "turn a q", "behind c q a", "behind c a q", "behind c q r", "behind a a q",
                    "behind q q q", "trim c q", "trim a q", "merge c q", "merge q q", "drop q", "size q", "tells q",
                    "show q", "told q plus 1 2 3", "told q plus 1", "rounds q 1", "rounds q 0", "rounds q 1001",
                    "turn c names", "drop abcdefgh"):
            self.is_refused(NoName, row)
            if "a" not in row.split(" ")[1:]:
                self.is_refused(NoName, row, Desk())

    def test_widths(self):
        for word in RULES:
            for width in (0, 65, 66, 999999999):
                self.is_refused(NoWidth, f"rule a {word} {width}")
                self.is_refused(NoWidth, f"rule c {word} {width}")
        for width in (0, 65, 999999999):
            for other in (0, 1, 7, 65, 999999999):
                self.is_refused(NoWidth, f"rule a spared {width} {other}")
                self.is_refused(NoWidth, f"rule c blocks {width} {other}")

    def test_spares_and_sizes(self):
        for width in (1, 2, 3, 64):
            for wrong in (7, 8, 999999999):
                self.is_refused(NoSpare, f"rule a spared {width} {wrong}")
            for wrong in (0, 65, 999999999):
                self.is_refused(NoSize, f"rule a blocks {width} {wrong}")

    def test_behind(self):
        for row in ("behind c t a", "behind c a t", "behind c t t", "behind a a t", "behind t t a"):
            self.is_refused(NoEnds, row, desk_with("rule a one 3", "turn t a"))
        desk = desk_with("rule a one 33", "rule b one 32", "rule c one 31")
        for row in ("behind x a b", "behind a a a", "behind b b a"):
            self.is_refused(TooMany, row, desk)
        self.assertEqual(desk.say("behind x b b"), "ok")
        self.assertEqual(desk.say("behind y a c"), "ok")

    def test_hands(self):
        for wrong in (0, 1001, 999999999):
            self.is_refused(NoHands, f"rounds a {wrong}")

    def test_no_things(self):
        for word in WORDS:
            for things in ("1", "1 2", "1 2 3 4", "-1 " * 63 + "1", "1 " * 1999 + "1"):
                self.is_refused(NoThings, f"told a {word} {things}")
        self.is_refused(NoThings, "told a plus 1 2", desk_with("rule a one 1"))
        self.is_refused(NoThings, "told a plus" + " 1" * 63, desk_with("rule a one 64"))
        self.is_refused(NoThings, "told a plus" + " 1" * 65, desk_with("rule a one 64"))

    def test_anything(self):
        for wrong in NO_TUPLES + DEEP + (("names",), ["names"], {"names": 0}, BIG, b"names", None):
            self.is_refused(NoRow, wrong)
        for wrong in ("a" * 20000, " " * 20000, "names " * 3333, "told a plus" + " x" * 9000, "\x00", "\x7f", "\n"):
            self.is_refused(NoRow, wrong)

    def test_what_is_refused_changes_nothing(self):
        desk = some_desk()
        before = all_kept(desk)
        for row in ("rule a one 0", "rule a spared 3 9", "turn a q", "behind a q b", "merge b q", "drop q", "rule a"):
            self.assertIsInstance(error_of(desk.say, row), NetError)
            self.assertEqual(all_kept(desk), before)

    def test_random_rows(self):
        dice = random.Random(191)
        words = ["rule", "turn", "behind", "trim", "merge", "drop", "size", "tells", "show", "names", "told", "rounds",
                 "a", "b", "q", "one", "spared", "plus", "3", "0", "-1", ""]
        seen = set()
        for count in range(1, 4):
            for row in itertools.product(words, repeat=count):
                desk = some_desk()
                error = error_of(desk.say, " ".join(row))
                seen.add(type(error))
                if error is not None:
                    self.assertIn(type(error), (NoRow, NoName, NoHands))
        for trial in range(4000):
            error = error_of(some_desk().say, " ".join(dice.choices(words, k=dice.randrange(4, 7))))
            seen.add(type(error))
            self.assertTrue(error is None or type(error).__base__ is NetError)
        self.assertLessEqual({NoRow, NoName, type(None)}, seen)


if __name__ == "__main__":
    unittest.main()
