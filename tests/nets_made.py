"""Nets that tell their beginnings, and right ones that don't."""

from sumnets.building import built
from sumnets.rules import by_blocks, by_halves, by_one, by_pairs, by_steps, by_twos, spared
from tests.samples import random_paper

# Right nets whose ends don't tell their beginnings.
NO_ENDS = [
    (2, ((0, 1),), (2,)), (2, ((0, 1),), (2, 0)), (2, ((0, 1),), (0, 2, 2)), (2, (), (0, 1)), (2, (), (0,)),
    (1, (), (0, 0)), (3, ((0, 1), (1, 2)), (0, 3, 4)), (3, ((0, 1), (3, 2)), (0, 4, 3)), (64, (), tuple(range(64))),
]


def rule_nets(width):
    """The nets of this width by each rule."""
    papers = [rule(width) for rule in (by_steps, by_one, by_halves, by_pairs, by_twos)]
    papers += [spared(width, spare) for spare in range(7)] + [by_blocks(width, size) for size in (1, 2, 3, 5, 8, 64)]
    return [built(paper) for paper in papers]


def more_knots(dice, net, count):
    """The same net with needless knots put between, and at times an end by one of them."""
    width, knots, ends = net
    spans = [(place, place) for place in range(width)]
    anew = list(range(width))
    new = []
    for knot in list(knots) + [None]:
        for step in range(dice.randrange(count)):
            pairs = [(left, right) for left in range(len(spans)) for right in range(len(spans))
                     if spans[left][1] + 1 == spans[right][0]]
            if pairs:
                left, right = dice.choice(pairs)
                new.append((left, right))
                spans.append((spans[left][0], spans[right][1]))
        if knot is not None:
            left, right = anew[knot[0]], anew[knot[1]]
            anew.append(len(spans))
            new.append((left, right))
            spans.append((spans[left][0], spans[right][1]))
    told = []
    for end in ends:
        alike = [number for number in range(len(spans)) if spans[number] == spans[anew[end]]]
        told.append(dice.choice(alike))
    return (width, tuple(new), tuple(told))


def random_beginnings(dice, width, count=3):
    """A net of this width that tells its beginnings, some of its knots needless."""
    return more_knots(dice, built(random_paper(dice, width, 3)), count)


def padded(net, count):
    """The same net with needless knots behind, so that it has count in all."""
    width, knots, ends = net
    return (width, knots + ((0, 1),) * (count - len(knots)), ends)
