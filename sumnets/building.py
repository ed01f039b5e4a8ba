"""Nets that are built from papers of blocks."""

from sumnets.nets import is_net
from sumnets.papers import is_paper, shares, width_of


def put(knots, width, left, right):
    """The number of a new knot of left and right, put behind the knots of a net of this width."""
    knots.append((left, right))
    return width + len(knots) - 1


def lay_steps(things, knots, width):
    """The ends of a paper of steps over these things; its knots are put behind knots."""
    values = list(things)
    step = 1
    while step < len(values):
        before = list(values)
        for place in range(step, len(values)):
            values[place] = put(knots, width, before[place - step], before[place])
        step *= 2
    return values


def lay_blocks(over, blocks, things, knots, width):
    """The ends of a paper of blocks over these things; its knots are put behind knots."""
    rows = []
    for block, share in zip(blocks, shares(blocks, things)):
        rows.append(lay(block, share, knots, width))
    tops = lay(over, [row[-1] for row in rows], knots, width)
    ends = rows[0][:-1] + tops[:1]
    for ahead, top, row in zip(tops, tops[1:], rows[1:]):
        for end in row[:-1]:
            ends.append(put(knots, width, ahead, end))
        ends.append(top)
    return ends


def lay(paper, things, knots, width):
    """The ends of a paper over these things, numbers in a net of this width; its knots are put behind knots."""
    if paper[0] == "steps":
        return lay_steps(things, knots, width)
    return lay_blocks(paper[1], paper[2], things, knots, width)


def built(paper):
    """The net that a paper builds; NoPaper."""
    width = width_of(paper)
    knots = []
    ends = lay(paper, list(range(width)), knots, width)
    return (width, tuple(knots), tuple(ends))


def built_holds(paper, net):
    """Whether paper is a paper, and net just the net that it builds."""
    return is_paper(paper) and is_net(net) and net == built(paper)
