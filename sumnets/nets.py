"""The form of nets."""

from sumnets.errors import NoNet
from sumnets.whole import are_between, is_between, is_tuple_of

MOST_WIDE = 64
MOST_KNOTS = 1000
MOST_ENDS = 400


def are_knots(knots, width):
    """Whether knots is a tuple of knots, each of two things or knots before it."""
    if not isinstance(knots, tuple) or len(knots) > MOST_KNOTS:
        return False
    for number, knot in enumerate(knots, start=width):
        if not is_tuple_of(knot, 2) or not are_between(knot, 0, number - 1):
            return False
    return True


def are_ends(ends, count):
    """Whether ends is a tuple of numbers of the count things and knots."""
    return are_between(ends, 0, count - 1) and 1 <= len(ends) <= MOST_ENDS


def is_net(net):
    """Whether net has the form of a net, right or not."""
    if not is_tuple_of(net, 3):
        return False
    width, knots, ends = net
    if not is_between(width, 1, MOST_WIDE) or not are_knots(knots, width):
        return False
    return are_ends(ends, width + len(knots))


def are_knots_of(net, numbers):
    """Whether numbers is a tuple of numbers of knots of net, perhaps of none."""
    return are_between(numbers, net[0], net[0] + len(net[1]) - 1)


def look_at_net(net):
    """None; NoNet where net isn't of the form."""
    if not is_net(net):
        raise NoNet("it isn't of the form of a net")
