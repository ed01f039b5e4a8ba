"""Nets of the fewest knots that tell some windows within a depth, with trees of cases that show it."""

from sumnets.errors import NoDepth, NoWidth, NoWindow, TooMany, TooShallow
from sumnets.levels import least_depth
from sumnets.rows import are_windows, beginnings
from sumnets.wanted import Wanted
from sumnets.whole import is_between

MOST_WIDE = 8
MOST_WIDE_OF_ANY = 6
MOST_WINDOWS = 5
MOST_DEPTH = 20


def look_at_windows(width, windows, depth):
    """NoWidth, NoWindow, TooMany, NoDepth, TooShallow, where the fewest knots aren't sought."""
    if not is_between(width, 1, MOST_WIDE):
        raise NoWidth("it is no number from 1 to 8")
    if not are_windows(windows, width) or not windows:
        raise NoWindow("it is no tuple of one window of the width or more")
    if windows != beginnings(width) and (len(windows) > MOST_WINDOWS or width > MOST_WIDE_OF_ANY):
        raise TooMany("there are more windows, or more things, than are allowed")
    if not is_between(depth, 0, MOST_DEPTH):
        raise NoDepth("it is no number from 0 to 20")
    if any(least_depth(last - first + 1) > depth for first, last in windows):
        raise TooShallow("a window has more things than the depth allows")


def leaf(wanted, since, number):
    """The tree without branches that is right after the changes since then, or None."""
    if len(wanted.limits) >= number:
        return ("many",)
    for window, before in wanted.changes[since:]:
        if wanted.is_too_deep(window):
            return ("deep", window)
    return None


def is_at_hand(wanted, window, limit):
    """Whether the window is a thing, or is wanted within the limit already."""
    first, last = window
    return first == last or (window in wanted.limits and wanted.limits[window] <= limit)


def place_at_hand(wanted, window):
    """The first place behind which the wanted window can be cut so that nothing more is wanted, or None."""
    first, last = window
    limit = wanted.limits[window] - 1
    for behind in range(first, last):
        if is_at_hand(wanted, (first, behind), limit) and is_at_hand(wanted, (behind + 1, last), limit):
            return behind
    return None


def cuts_left(wanted, window, number):
    """At how many places the window can be cut so that neither too much is wanted nor anything too deep."""
    first, last = window
    count = 0
    for behind in range(first, last):
        since = wanted.cut(window, behind)
        if leaf(wanted, since, number) is None:
            count += 1
        wanted.uncut(window, since)
    return count


def window_to_cut(wanted, number):
    """Of the windows that still must be cut the one with the fewest cuts left, or None if there is none."""
    best = None
    fewest_left = 0
    for window in sorted(wanted.limits):
        if window in wanted.cuts or place_at_hand(wanted, window) is not None:
            continue
        left = cuts_left(wanted, window, number)
        if best is None or left < fewest_left:
            best = window
            fewest_left = left
    return best


def tree_below(wanted, number):
    """A tree that shows that what is wanted needs number knots or more.

    None where that isn't so: then wanted is left as it is when each window is cut, or can be cut at hand.
    """
    window = window_to_cut(wanted, number)
    if window is None:
        return None
    first, last = window
    branches = []
    for behind in range(first, last):
        since = wanted.cut(window, behind)
        branch = leaf(wanted, since, number)
        if branch is None:
            branch = tree_below(wanted, number)
        if branch is None:
            return None
        branches.append(branch)
        wanted.uncut(window, since)
    return ("cut", window, tuple(branches))


def by_size(window):
    """Windows in this order stand behind their parts."""
    first, last = window
    return (last - first, first)


def net_of(width, windows, wanted):
    """The net of a knot for each wanted window, where each is cut, or can be cut at hand."""
    numbers = {(place, place): place for place in range(width)}
    knots = []
    for window in sorted(wanted.limits, key=by_size):
        first, last = window
        behind = wanted.cuts[window] if window in wanted.cuts else place_at_hand(wanted, window)
        numbers[window] = width + len(knots)
        knots.append((numbers[(first, behind)], numbers[(behind + 1, last)]))
    return (width, tuple(knots), tuple(numbers[window] for window in windows))


def fewest(width, windows, depth):
    """A tuple (net, tree): a net of the fewest knots that tells the windows within the depth, and what shows it.

    NoWidth, NoWindow, TooMany, NoDepth, TooShallow.
    """
    look_at_windows(width, windows, depth)
    tree = ("many",)
    number = len(Wanted(windows, depth).limits)
    while True:
        # The tree shows that number knots are needed; if one more aren't, a net of just so many is found.
        wanted = Wanted(windows, depth)
        next_tree = tree_below(wanted, number + 1)
        if next_tree is None:
            return (net_of(width, windows, wanted), tree)
        tree = next_tree
        number += 1
