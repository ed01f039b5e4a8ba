"""What the ends and the knots of a net come to."""

from sumnets.errors import NoRow
from sumnets.joinings import come_to, look_at_joining, look_at_things
from sumnets.spans import all_spans
from sumnets.whole import is_tuple_of


def look_at_full_row(net, joining, things):
    """NoRow, NoThing, where things is no tuple of as many things of joining as net is wide."""
    if not is_tuple_of(things, net[0]):
        raise NoRow("it is no tuple of as many things as the net is wide")
    look_at_things(joining, things)


def look_at_all(net, joining, things):
    """NoNet, NotBeside, NoJoining, Bracketed, NoRow, NoThing, where net can't tell of things by joining."""
    all_spans(net)
    look_at_joining(joining)
    look_at_full_row(net, joining, things)


def values_of(net, joining, things):
    """What all things and knots come to, in order; refused as look_at_all."""
    look_at_all(net, joining, things)
    values = list(things)
    for left, right in net[1]:
        values.append(come_to(joining, values[left], values[right]))
    return values


def told(net, joining, things):
    """A list of what the ends come to; NoNet, NotBeside, NoJoining, Bracketed, NoRow, NoThing."""
    values = values_of(net, joining, things)
    return [values[end] for end in net[2]]


def all_told(net, joining, things):
    """A list of what the knots come to; refused as told."""
    return values_of(net, joining, things)[net[0]:]
