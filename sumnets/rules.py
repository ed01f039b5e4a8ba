"""Rules that tell papers of blocks."""

from sumnets.errors import NoSize, NoSpare, NoWidth
from sumnets.nets import MOST_WIDE
from sumnets.whole import is_between

ONE = ("steps", 1)
TWO = ("steps", 2)
MOST_SPARE = 6
MOST_SIZE = 64


def look_at_width(width):
    """NoWidth where width isn't 1 to 64."""
    if not is_between(width, 1, MOST_WIDE):
        raise NoWidth("it is no number from 1 to 64")


def half_of(width):
    """Half of the width, rounded up."""
    return (width + 1) // 2


def pairs_of(width):
    """A tuple of the blocks that a width is made of, two by two; the last one may be left alone."""
    return (TWO,) * (width // 2) + (ONE,) * (width % 2)


def by_steps(width):
    """The paper of steps; NoWidth."""
    look_at_width(width)
    return ("steps", width)


def by_one(width):
    """The paper that adds one thing after another; NoWidth."""
    look_at_width(width)
    if width <= 2:
        return ("steps", width)
    return ("blocks", TWO, (by_one(width - 1), ONE))


def by_halves(width):
    """The paper of two halves, each by halves again; NoWidth."""
    look_at_width(width)
    if width <= 2:
        return ("steps", width)
    half = half_of(width)
    return ("blocks", TWO, (by_halves(half), by_halves(width - half)))


def by_pairs(width):
    """The paper of pairs, with one of pairs again over them; NoWidth."""
    look_at_width(width)
    if width <= 2:
        return ("steps", width)
    return ("blocks", by_pairs(half_of(width)), pairs_of(width))


def by_twos(width):
    """The paper of pairs, with one of steps over them; NoWidth."""
    look_at_width(width)
    if width <= 2:
        return ("steps", width)
    return ("blocks", ("steps", half_of(width)), pairs_of(width))


def spared(width, spare):
    """The paper that may be so much deeper than it must be, to spare knots; NoWidth, NoSpare."""
    look_at_width(width)
    if not is_between(spare, 0, MOST_SPARE):
        raise NoSpare("it is no number from 0 to 6")
    if width <= 2:
        return ("steps", width)
    half = half_of(width)
    if spare == 0:
        return ("blocks", TWO, (spared(half, 1), spared(width - half, 0)))
    return ("blocks", spared(half, spare - 1), pairs_of(width))


def by_blocks(width, size):
    """The paper of blocks of this size, each by steps, with one of halves over them; NoWidth, NoSize."""
    look_at_width(width)
    if not is_between(size, 1, MOST_SIZE):
        raise NoSize("it is no number from 1 to 64")
    if width <= 2 or width <= size:
        return ("steps", width)
    blocks = (("steps", size),) * (width // size)
    left = width % size
    if left > 0:
        blocks += (("steps", left),)
    return ("blocks", by_halves(len(blocks)), blocks)
