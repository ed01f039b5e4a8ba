"""Nets turned about."""

from sumnets.nets import look_at_net


def turned_number(width, number):
    """The number of a thing counted from the back, or the knot's own number."""
    return width - 1 - number if number < width else number


def turned_net(net):
    """The net of things, sides of knots and ends the other way about; NoNet."""
    look_at_net(net)
    width, knots, ends = net
    new_knots = tuple((turned_number(width, right), turned_number(width, left)) for left, right in knots)
    return (width, new_knots, tuple(turned_number(width, end) for end in ends[::-1]))
