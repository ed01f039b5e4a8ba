"""Windows, and what the things of a row come to, joined one by one."""

from sumnets.errors import NoRow, NoWindow
from sumnets.joinings import come_to, look_at_joining, look_at_things
from sumnets.whole import are_between, is_tuple_of


def beginnings(width):
    """A tuple of the windows from place 0 on, one for each place."""
    return tuple((0, last) for last in range(width))


def is_window(window, width):
    """Whether window is a window of so many places."""
    return is_tuple_of(window, 2) and are_between(window, 0, width - 1) and window[0] <= window[1]


def are_windows(windows, width):
    """Whether windows is a tuple of windows of so many places, perhaps of none."""
    return isinstance(windows, tuple) and all(is_window(window, width) for window in windows)


def look_at_row(joining, things):
    """NoJoining, Bracketed, NoRow, NoThing, where things is no row of things of joining."""
    look_at_joining(joining)
    if not isinstance(things, tuple) or not things:
        raise NoRow("it is no tuple of one thing or more")
    look_at_things(joining, things)


def one_by_one(joining, things):
    """What the things, one at least, come to up to each place, in a list; they were looked at."""
    so_far = things[0]
    values = [so_far]
    for thing in things[1:]:
        so_far = come_to(joining, so_far, thing)
        values.append(so_far)
    return values


def all_of_them(joining, things):
    """What the things, one at least, come to; they were looked at."""
    so_far = things[0]
    for thing in things[1:]:
        so_far = come_to(joining, so_far, thing)
    return so_far


def row_joined(joining, things):
    """What all things come to, joined one by one; NoJoining, Bracketed, NoRow, NoThing."""
    look_at_row(joining, things)
    return all_of_them(joining, things)


def beginnings_told(joining, things):
    """A list, for each place what the things up to it come to; refused as row_joined."""
    look_at_row(joining, things)
    return one_by_one(joining, things)


def window_told(joining, things, window):
    """What the window's things come to; refused as row_joined, then NoWindow."""
    look_at_row(joining, things)
    if not is_window(window, len(things)):
        raise NoWindow("it is no window of the things")
    first, last = window
    return all_of_them(joining, things[first:last + 1])
