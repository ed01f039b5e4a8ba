"""A desk that keeps nets by names and answers rows."""

from sumnets.behind import behind
from sumnets.building import built
from sumnets.errors import NoName, NoRow, NoThings
from sumnets.levels import depth_of
from sumnets.merged import merged
from sumnets.rounds import least_rounds, rounds_of
from sumnets.rules import by_blocks, by_halves, by_one, by_pairs, by_steps, by_twos, spared
from sumnets.spans import tells_beginnings
from sumnets.telling import told
from sumnets.texts import net_shown
from sumnets.trimmed import trimmed
from sumnets.turning import turned_net
from sumnets.words import is_name, is_number, is_signed_number

OK = "ok"
TOLD_BY = ("plus", "least", "greatest", "first", "last")
# How many numbers stand behind the word of a rule.
RULES = {"one": 1, "steps": 1, "halves": 1, "pairs": 1, "twos": 1, "spared": 2, "blocks": 2}


def look_at_words(are_right):
    """NoRow where the words behind a row's first one aren't as they should be."""
    if not are_right:
        raise NoRow("there is no such row")


def look_at_names(words, count):
    """NoRow where words isn't just so many names."""
    look_at_words(len(words) == count and all(is_name(word) for word in words))


def net_by(nets, name):
    """The net that is kept by the name; NoName."""
    if name not in nets:
        raise NoName("nothing is kept by this name")
    return nets[name]


def last_net(nets, words, count):
    """The net that is kept by the last one of words, just so many names; NoRow, NoName."""
    look_at_names(words, count)
    return net_by(nets, words[-1])


def paper_by(rule, numbers):
    """The paper of the rule with this word; NoWidth, NoSpare, NoSize."""
    if rule == "one":
        return by_one(numbers[0])
    if rule == "steps":
        return by_steps(numbers[0])
    if rule == "halves":
        return by_halves(numbers[0])
    if rule == "pairs":
        return by_pairs(numbers[0])
    if rule == "twos":
        return by_twos(numbers[0])
    if rule == "spared":
        return spared(numbers[0], numbers[1])
    return by_blocks(numbers[0], numbers[1])


def say_rule(nets, words):
    """rule NAME RULE WIDTH, with SPARE or SIZE behind by some rules."""
    look_at_words(len(words) > 2 and is_name(words[0]) and RULES.get(words[1]) == len(words) - 2)
    look_at_words(all(is_number(word) for word in words[2:]))
    nets[words[0]] = built(paper_by(words[1], [int(word) for word in words[2:]]))
    return OK


def say_turn(nets, words):
    """turn NAME OTHER."""
    nets[words[0]] = turned_net(last_net(nets, words, 2))
    return OK


def say_behind(nets, words):
    """behind NAME ONE OTHER."""
    look_at_names(words, 3)
    nets[words[0]] = behind(net_by(nets, words[1]), net_by(nets, words[2]))
    return OK


def say_trim(nets, words):
    """trim NAME OTHER."""
    nets[words[0]] = trimmed(last_net(nets, words, 2))
    return OK


def say_merge(nets, words):
    """merge NAME OTHER."""
    nets[words[0]] = merged(last_net(nets, words, 2))
    return OK


def say_drop(nets, words):
    """drop NAME."""
    last_net(nets, words, 1)
    del nets[words[0]]
    return OK


def say_size(nets, words):
    """size NAME."""
    net = last_net(nets, words, 1)
    return f"{net[0]} {len(net[1])} {depth_of(net)}"


def say_tells(nets, words):
    """tells NAME."""
    return "yes" if tells_beginnings(last_net(nets, words, 1)) else "no"


def say_show(nets, words):
    """show NAME."""
    return net_shown(last_net(nets, words, 1))


def say_names(nets, words):
    """names."""
    look_at_words(len(words) == 0)
    return " ".join(sorted(nets)) if nets else "-"


def say_told(nets, words):
    """told NAME WORD THINGS."""
    look_at_words(len(words) > 2 and is_name(words[0]) and words[1] in TOLD_BY)
    look_at_words(all(is_signed_number(word) for word in words[2:]))
    net = net_by(nets, words[0])
    things = tuple(int(word) for word in words[2:])
    if len(things) != net[0]:
        raise NoThings("there are more or fewer things than the net is wide")
    return " ".join([str(value) for value in told(net, (words[1],), things)])


def say_rounds(nets, words):
    """rounds NAME HANDS."""
    look_at_words(len(words) == 2 and is_name(words[0]) and is_number(words[1]))
    net = net_by(nets, words[0])
    hands = int(words[1])
    return f"{len(rounds_of(net, hands))} {least_rounds(net, hands)}"


SAYINGS = {
    "rule": say_rule,
    "turn": say_turn,
    "behind": say_behind,
    "trim": say_trim,
    "merge": say_merge,
    "drop": say_drop,
    "size": say_size,
    "tells": say_tells,
    "show": say_show,
    "names": say_names,
    "told": say_told,
    "rounds": say_rounds,
}


class Desk:
    """Nets, kept by names."""

    def __init__(self):
        self.nets = {}

    def say(self, row):
        """The text that answers a row; NoRow, NoName, NoThings, and what the net's own functions refuse."""
        look_at_words(isinstance(row, str))
        words = row.split(" ")
        look_at_words(words[0] in SAYINGS)
        saying = SAYINGS[words[0]]
        return saying(self.nets, words[1:])
