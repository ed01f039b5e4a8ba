"""Spans: the window of things that each knot is made of, and which windows a net tells."""

from sumnets.errors import NoEnds, NotBeside
from sumnets.nets import is_net, look_at_net
from sumnets.rows import are_windows, beginnings


def spans_while_beside(net):
    """The spans of things and knots, in order, up to the first knot whose two don't lie side by side."""
    width, knots, ends = net
    spans = [(place, place) for place in range(width)]
    for left, right in knots:
        if spans[right][0] != spans[left][1] + 1:
            break
        spans.append((spans[left][0], spans[right][1]))
    return spans


def are_all_spans(net, spans):
    """Whether what spans_while_beside tells of net reaches its last knot: then net is right."""
    return len(spans) == net[0] + len(net[1])


def all_spans(net):
    """The spans of things and knots, in order; NoNet, NotBeside."""
    look_at_net(net)
    spans = spans_while_beside(net)
    if not are_all_spans(net, spans):
        raise NotBeside(len(spans))
    return spans


def spans_of(net):
    """A list of the knots' spans; NoNet, NotBeside."""
    return all_spans(net)[net[0]:]


def spans_hold(net, spans):
    """Whether net is a right net, and spans a tuple of just its knots' spans."""
    if not is_net(net) or not are_windows(spans, net[0]):
        return False
    found = spans_while_beside(net)
    return are_all_spans(net, found) and list(spans) == found[net[0]:]


def tells(net, windows):
    """Whether net is a right net, and windows a tuple of just the spans of its ends."""
    if not is_net(net) or not are_windows(windows, net[0]):
        return False
    spans = spans_while_beside(net)
    return are_all_spans(net, spans) and list(windows) == [spans[end] for end in net[2]]


def tells_beginnings(net):
    """Whether net is a net that tells the beginnings of its width."""
    return is_net(net) and tells(net, beginnings(net[0]))


def look_at_beginnings(net):
    """NoNet, NotBeside, NoEnds, where net doesn't tell the beginnings of its width."""
    all_spans(net)
    if not tells_beginnings(net):
        raise NoEnds("its ends don't tell its beginnings")
