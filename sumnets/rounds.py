"""Rounds: which knots are joined at once, by so many hands."""

from sumnets.errors import NoHands, NoRounds
from sumnets.joinings import come_to
from sumnets.levels import all_levels, depth_of
from sumnets.nets import are_knots_of, is_net, look_at_net
from sumnets.telling import look_at_all
from sumnets.whole import are_rising, is_between

MOST_HANDS = 1000


def are_hands(hands):
    """Whether hands is a number of hands."""
    return is_between(hands, 1, MOST_HANDS)


def look_at_net_and_hands(net, hands):
    """NoNet, NoHands."""
    look_at_net(net)
    if not are_hands(hands):
        raise NoHands("it is no number from 1 to 1000")


def rounds_of(net, hands):
    """A tuple of rounds, level by level, each at most hands knots; NoNet, NoHands.

    At each level just the last round may have fewer than hands knots, so hands - 1 at most are missing there.
    """
    look_at_net_and_hands(net, hands)
    levels = all_levels(net)
    by_level = [[] for level in range(max(levels) + 1)]
    for number, level in enumerate(levels):
        by_level[level].append(number)
    rounds = []
    for numbers in by_level[1:]:
        for first in range(0, len(numbers), hands):
            rounds.append(tuple(numbers[first:first + hands]))
    return tuple(rounds)


def is_next_round(net, hands, numbers, ready):
    """Whether numbers is a round of net, where ready tells of each thing and knot whether it stands ahead of it."""
    width, knots, ends = net
    if not are_knots_of(net, numbers) or not 1 <= len(numbers) <= hands or not are_rising(numbers):
        return False
    if any(ready[number] for number in numbers):
        return False
    return all(ready[part] for number in numbers for part in knots[number - width])


def rounds_hold(net, hands, rounds):
    """Whether rounds is a tuple of rounds of net for so many hands, each knot in just one, behind its two."""
    if not is_net(net) or not are_hands(hands) or not isinstance(rounds, tuple):
        return False
    ready = [True] * net[0] + [False] * len(net[1])
    for numbers in rounds:
        if not is_next_round(net, hands, numbers, ready):
            return False
        for number in numbers:
            ready[number] = True
    return all(ready)


def least_rounds(net, hands):
    """How many rounds there are at least for so many hands; NoNet, NoHands."""
    look_at_net_and_hands(net, hands)
    return max(depth_of(net), (len(net[1]) + hands - 1) // hands)


def rounds_told(net, joining, things, rounds):
    """A list of what the ends come to, joined round by round; refused as told, then NoRounds."""
    look_at_all(net, joining, things)
    if not rounds_hold(net, MOST_HANDS, rounds):
        raise NoRounds("it is no rounds of the net for 1000 hands")
    width, knots, ends = net
    held = list(things) + [None] * len(knots)
    for numbers in rounds:
        # All hands join at once, so none sees what another one joins in this round.
        pairs = [knots[number - width] for number in numbers]
        values = [come_to(joining, held[left], held[right]) for left, right in pairs]
        for number, value in zip(numbers, values):
            held[number] = value
    return [held[end] for end in ends]
