"""Papers that show how few knots and how little depth a net can have that tells all beginnings."""

from sumnets.nets import are_knots_of
from sumnets.spans import look_at_beginnings, tells_beginnings
from sumnets.trimmed import needed
from sumnets.whole import is_tuple_of


def spine_of(net):
    """The knots from the last end on, each one's left one the next."""
    width, knots, ends = net
    spine = []
    number = ends[-1]
    while number >= width:
        spine.append(number)
        number = knots[number - width][0]
    return spine


def sum_paper(net):
    """The paper ("sum", tree, spine, beside) of a net; NoNet, NotBeside, NoEnds."""
    look_at_beginnings(net)
    width, knots, ends = net
    tree = needed((width, knots, ends[-1:]))
    beside = [end for end in ends if end >= width and end not in tree]
    return ("sum", tuple(tree), tuple(spine_of(net)), tuple(beside))


def are_unlike_knots(net, numbers):
    """Whether numbers is a tuple of numbers of knots of net, each of them once."""
    return are_knots_of(net, numbers) and len(set(numbers)) == len(numbers)


def is_spine(net, spine):
    """Whether spine is knots from the last end on, each one's left one the next; none of width 1 alone."""
    width, knots, ends = net
    if not are_knots_of(net, spine):
        return False
    if width == 1:
        return len(spine) == 0
    # The last end of a wider net is a knot, so a spine without knots doesn't begin with it.
    if spine[:1] != ends[-1:]:
        return False
    return all(other == knots[one - width][0] for one, other in zip(spine, spine[1:]))


def sum_holds(net, paper):
    """Whether net tells its beginnings, and paper shows that its knots and its depth together can't be fewer."""
    if not tells_beginnings(net) or not is_tuple_of(paper, 4) or paper[0] != "sum":
        return False
    word, tree, spine, beside = paper
    if not are_unlike_knots(net, tree) or not are_unlike_knots(net, beside) or not is_spine(net, spine):
        return False
    if any(number in tree for number in beside):
        return False
    least = net[0] - 1
    return len(tree) == least and len(spine) + len(beside) >= least
