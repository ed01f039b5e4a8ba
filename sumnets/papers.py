"""Papers of blocks, and what is said of the nets that they build without building them."""

from sumnets.errors import NoPaper
from sumnets.levels import least_depth
from sumnets.nets import MOST_KNOTS, MOST_WIDE
from sumnets.whole import is_between, is_tuple_of

MOST_DEEP = 70


def is_steps(paper):
    """Whether paper is a paper of steps."""
    return is_tuple_of(paper, 2) and paper[0] == "steps" and is_between(paper[1], 1, MOST_WIDE)


def has_blocks(paper):
    """Whether paper has the outer form of a paper of blocks, whatever stands in it."""
    if not is_tuple_of(paper, 3) or paper[0] != "blocks":
        return False
    return isinstance(paper[2], tuple) and len(paper[2]) >= 2


def knots_of_steps(width):
    """How many knots the paper of steps of this width builds."""
    depth = least_depth(width)
    return width * depth - (1 << depth) + 1


def size_of(paper, room):
    """A tuple (width, knots) of a paper that is at most room deep; None where it is none."""
    if room < 1:
        return None
    if is_steps(paper):
        return (paper[1], knots_of_steps(paper[1]))
    if not has_blocks(paper):
        return None
    return size_of_blocks(paper[1], paper[2], room - 1)


def size_of_blocks(over, blocks, room):
    """A tuple (width, knots) of a paper of blocks, what stands in it at most room deep; None where it is none."""
    above = size_of(over, room)
    if above is None or above[0] != len(blocks):
        return None
    width = 0
    knots = above[1]
    for block in blocks:
        size = size_of(block, room)
        if size is None:
            return None
        # Each end but the last of each block but the first is joined with what over tells ahead of it.
        knots += size[1] + (size[0] - 1 if width > 0 else 0)
        width += size[0]
    if width > MOST_WIDE or knots > MOST_KNOTS:
        return None
    return (width, knots)


def is_paper(paper):
    """Whether paper is a paper of blocks or of steps."""
    return size_of(paper, MOST_DEEP) is not None


def looked_at(paper):
    """A tuple (width, knots) of a paper; NoPaper where it is none."""
    size = size_of(paper, MOST_DEEP)
    if size is None:
        raise NoPaper("it is no paper of steps or of blocks")
    return size


def width_of(paper):
    """The width of a paper; NoPaper."""
    return looked_at(paper)[0]


def knots_in(paper):
    """How many knots the net has that a paper builds; NoPaper."""
    return looked_at(paper)[1]


def wide(paper):
    """The width of what is known to be a paper."""
    if paper[0] == "steps":
        return paper[1]
    return sum([wide(block) for block in paper[2]])


def shares(blocks, things):
    """A list of lists, for each block those of the things that are its own."""
    rows = []
    first = 0
    for block in blocks:
        behind = first + wide(block)
        rows.append(things[first:behind])
        first = behind
    return rows


def depths_by_steps(depths):
    """The depths of the ends of a paper of steps, if its things are so deep already."""
    step = 1
    while step < len(depths):
        depths = depths[:step] + [1 + max(one, other) for one, other in zip(depths, depths[step:])]
        step *= 2
    return depths


def depths_behind(paper, depths):
    """The depths of the ends of a paper, if its things are so deep already."""
    if paper[0] == "steps":
        return depths_by_steps(depths)
    rows = [depths_behind(block, share) for block, share in zip(paper[2], shares(paper[2], depths))]
    tops = depths_behind(paper[1], [row[-1] for row in rows])
    ends = rows[0][:-1] + tops[:1]
    for ahead, top, row in zip(tops, tops[1:], rows[1:]):
        ends.extend([1 + max(ahead, depth) for depth in row[:-1]])
        ends.append(top)
    return ends


def depths_in(paper):
    """A list of the depths of the ends of the net that a paper builds; NoPaper."""
    return depths_behind(paper, [0] * width_of(paper))
