"""Nets shown as texts, and read back from them."""

from sumnets.errors import NoText
from sumnets.nets import is_net, look_at_net
from sumnets.words import is_number


def row_of(words):
    """A row of these words, with its row end."""
    return " ".join([str(word) for word in words]) + "\n"


def net_shown(net):
    """The text that shows net; NoNet."""
    look_at_net(net)
    width, knots, ends = net
    return row_of(("net", width)) + "".join([row_of(knot) for knot in knots]) + row_of(("ends",) + ends)


def numbers_of(words):
    """A tuple of the numbers that these words are, or None where one of them is none."""
    if not all(is_number(word) for word in words):
        return None
    return tuple(int(word) for word in words)


def net_in(rows):
    """What the rows, split into words, would show: a net, or something that is none."""
    if len(rows) < 3 or rows[0][0] != "net" or rows[-2][0] != "ends" or rows[-1] != [""]:
        return None
    widths = numbers_of(rows[0][1:])
    if widths is None or len(widths) != 1:
        return None
    return (widths[0], tuple(numbers_of(row) for row in rows[1:-2]), numbers_of(rows[-2][1:]))


def net_read(text):
    """The net that the text shows; NoText."""
    net = None
    if isinstance(text, str):
        net = net_in([row.split(" ") for row in text.split("\n")])
    if not is_net(net):
        raise NoText("it is no text that shows a net")
    return net
