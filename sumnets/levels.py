"""How deep knots and nets are, and how deep a net must be at least."""

from sumnets.errors import NoSize
from sumnets.nets import are_knots_of, is_net, look_at_net
from sumnets.whole import are_whole, is_between

MOST_SIZE = 10 ** 9


def least_depth(size):
    """The least d such that 2 ** d is size or more; NoSize where size isn't 1 to 10 ** 9."""
    if not is_between(size, 1, MOST_SIZE):
        raise NoSize("it is no number from 1 to 10 ** 9")
    depth = 0
    reach = 1
    while reach < size:
        depth += 1
        reach *= 2
    return depth


def all_levels(net):
    """The depths of things and knots, in order."""
    width, knots, ends = net
    levels = [0] * width
    for left, right in knots:
        levels.append(1 + max(levels[left], levels[right]))
    return levels


def levels_of(net):
    """A list of the knots' depths; NoNet."""
    look_at_net(net)
    return all_levels(net)[net[0]:]


def depth_of(net):
    """The depth of the deepest knot, 0 without knots; NoNet."""
    look_at_net(net)
    return max(all_levels(net))


def longest_way(net):
    """A tuple of numbers of knots, as many as net is deep, each one of the two of the next one; NoNet."""
    look_at_net(net)
    levels = all_levels(net)
    number = levels.index(max(levels))
    way = []
    while levels[number] > 0:
        way.append(number)
        left, right = net[1][number - net[0]]
        number = left if levels[left] >= levels[right] else right
    way.reverse()
    return tuple(way)


def levels_hold(net, levels):
    """Whether net is a net, and levels a tuple of just its knots' depths."""
    return is_net(net) and are_whole(levels) and list(levels) == levels_of(net)


def way_holds(net, way):
    """Whether net is a net, and way a tuple of numbers of knots, each one of the two of the next one."""
    if not is_net(net) or not are_knots_of(net, way):
        return False
    width, knots, ends = net
    return all(one in knots[other - width] for one, other in zip(way, way[1:]))
