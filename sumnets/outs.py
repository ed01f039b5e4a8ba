"""How often things and knots go out into knots, and how far knots reach."""

from sumnets.nets import look_at_net
from sumnets.spans import all_spans


def outs_of(net):
    """A list, for each thing and each knot how often it stands in knots; NoNet."""
    look_at_net(net)
    width, knots, ends = net
    outs = [0] * (width + len(knots))
    for left, right in knots:
        outs[left] += 1
        outs[right] += 1
    return outs


def most_out(net):
    """How often what goes out most often stands in knots; NoNet."""
    return max(outs_of(net))


def lengths_of(net):
    """A list, for each knot its last place less its left one's last place; NoNet, NotBeside."""
    spans = all_spans(net)
    width, knots, ends = net
    return [spans[number][1] - spans[knot[0]][1] for number, knot in enumerate(knots, start=width)]
