"""Nets in which no two knots have one span."""

from sumnets.levels import all_levels
from sumnets.spans import all_spans
from sumnets.trimmed import with_knots


def shallowest_of_spans(spans, levels):
    """For each span the number of the least deep thing or knot that has it, of several the first."""
    best = {}
    for number, span in enumerate(spans):
        if span not in best or levels[number] < levels[best[span]]:
            best[span] = number
    return best


def merged(net):
    """The net in which of all knots with one span just the least deep one stays; NoNet, NotBeside."""
    spans = all_spans(net)
    levels = all_levels(net)
    best = shallowest_of_spans(spans, levels)
    # A knot is deeper than its two, so by depth each one still stands behind those that it is made of.
    stay = sorted([(levels[number], number) for number in best.values() if number >= net[0]])
    return with_knots(net, [number for level, number in stay], [best[span] for span in spans])
