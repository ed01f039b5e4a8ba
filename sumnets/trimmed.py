"""Nets without the knots that no end needs."""

from sumnets.nets import look_at_net


def needed(net):
    """A list of the numbers of the needed knots, rising; NoNet."""
    look_at_net(net)
    width, knots, ends = net
    wanted = [False] * (width + len(knots))
    for end in ends:
        wanted[end] = True
    numbers = []
    # A knot's two stand before it, so from the back on each knot is settled when its turn comes.
    for number in range(width + len(knots) - 1, width - 1, -1):
        if wanted[number]:
            left, right = knots[number - width]
            wanted[left] = True
            wanted[right] = True
            numbers.append(number)
    numbers.reverse()
    return numbers


def with_knots(net, numbers, stand_for):
    """The net of just the knots with these numbers, in their order, all renumbered.

    stand_for tells for each thing and knot the number of the thing or of the staying knot that stands for it.
    """
    width, knots, ends = net
    anew = {place: place for place in range(width)}
    for at, number in enumerate(numbers, start=width):
        anew[number] = at
    stay = [knots[number - width] for number in numbers]
    new_knots = tuple((anew[stand_for[left]], anew[stand_for[right]]) for left, right in stay)
    return (width, new_knots, tuple(anew[stand_for[end]] for end in ends))


def trimmed(net):
    """The net without the knots that aren't needed; NoNet."""
    numbers = needed(net)
    return with_knots(net, numbers, list(range(net[0] + len(net[1]))))
