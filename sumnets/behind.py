"""Nets put behind one another."""

from sumnets.errors import TooMany
from sumnets.nets import MOST_KNOTS, MOST_WIDE
from sumnets.spans import look_at_beginnings


def moved(numbers, width, things_on, knots_on):
    """A tuple of numbers of a net of this width, its things and its knots as far on as told."""
    return tuple(number + (things_on if number < width else knots_on) for number in numbers)


def behind(net, other):
    """The net for the things of net and those of other behind them; NoNet, NotBeside, NoEnds, TooMany."""
    look_at_beginnings(net)
    look_at_beginnings(other)
    width, knots, ends = net
    other_width, other_knots, other_ends = other
    wide = width + other_width
    count = len(knots) + len(other_knots)
    if wide > MOST_WIDE or count + other_width > MOST_KNOTS:
        raise TooMany("together they have more than 64 things or 1000 knots")
    new_knots = [moved(knot, width, 0, other_width) for knot in knots]
    new_ends = moved(ends, width, 0, other_width)
    knots_on = width + len(knots)
    new_knots += [moved(knot, other_width, width, knots_on) for knot in other_knots]
    new_knots += [(new_ends[-1], end) for end in moved(other_ends, other_width, width, knots_on)]
    return (wide, tuple(new_knots), new_ends + tuple(range(wide + count, wide + len(new_knots))))
