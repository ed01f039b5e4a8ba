"""Nets made for parts."""

from sumnets.errors import NoPlace
from sumnets.spans import all_spans, look_at_beginnings
from sumnets.trimmed import with_knots
from sumnets.whole import are_between, are_rising


def look_at_begins(begins, width):
    """NoPlace where begins is no tuple of places from 1 on of so many, rising."""
    if not are_between(begins, 1, width - 1) or not are_rising(begins):
        raise NoPlace("it is no tuple of rising places from 1 on")


def parted(net, begins):
    """The net that tells each part's own beginnings; NoNet, NotBeside, NoEnds, NoPlace."""
    look_at_beginnings(net)
    width, knots, ends = net
    look_at_begins(begins, width)
    spans = all_spans(net)
    stand_for = list(range(width))
    stay = []
    for number, (left, right) in enumerate(knots, start=width):
        first, last = spans[right]
        if any(first <= place <= last for place in begins):
            stand_for.append(stand_for[right])
        else:
            stand_for.append(number)
            stay.append(number)
    return with_knots(net, stay, stand_for)
