"""Nets that are made for windows."""

from sumnets.errors import NoSize, NoWindow
from sumnets.rows import are_windows
from sumnets.rules import look_at_width
from sumnets.whole import is_between

MOST_WINDOWS = 400


class Weave:
    """A net that grows: its knots so far, and by their spans the numbers of its things and knots."""

    def __init__(self, width):
        self.width = width
        self.knots = []
        self.numbers = {(place, place): place for place in range(width)}

    def join_spans(self, one, other):
        """The span of two spans side by side; one knot joins them, however often they are asked for."""
        span = (one[0], other[1])
        if span not in self.numbers:
            self.numbers[span] = self.width + len(self.knots)
            self.knots.append((self.numbers[one], self.numbers[other]))
        return span

    def join_up_to(self, first, last):
        """The span of these places, joined from the first one on."""
        span = (first, first)
        for place in range(first + 1, last + 1):
            span = self.join_spans(span, (place, place))
        return span

    def join_back_to(self, first, last):
        """The span of these places, joined from the last one back."""
        span = (last, last)
        for place in range(last - 1, first - 1, -1):
            span = self.join_spans((place, place), span)
        return span

    def join_around(self, window, middle):
        """The window becomes a span, joined from the place middle in it to both sides."""
        first, last = window
        span = self.join_up_to(middle, last)
        if first < middle:
            self.join_spans(self.join_back_to(first, middle - 1), span)

    def net_of(self, windows):
        """The net that tells these windows, each of them a span by now."""
        return (self.width, tuple(self.knots), tuple(self.numbers[window] for window in windows))


def middle_of(window):
    """The place in the window, behind its first one, at which the greatest power of two parts the row."""
    first, last = window
    if first == last:
        return first
    step = 1 << ((first ^ last).bit_length() - 1)
    return last // step * step


def windows_net(width, windows):
    """A right net that tells windows; NoWidth, NoWindow.

    For each power of two below the width there is at most one knot for each place, which reaches from there to the
    next middle, or from the middle to there; and each window is one knot more.
    """
    look_at_width(width)
    if not are_windows(windows, width) or not 1 <= len(windows) <= MOST_WINDOWS:
        raise NoWindow("it is no tuple of 1 to 400 windows of the width")
    weave = Weave(width)
    for window in windows:
        weave.join_around(window, middle_of(window))
    return weave.net_of(windows)


def moving(width, size):
    """A right net that tells the windows of so many things, from place 0 on; NoWidth, NoSize.

    There is at most one knot for each place that reaches from there up to the next multiple of the size, one that
    reaches to there from the last one, and one for each window.
    """
    look_at_width(width)
    if not is_between(size, 1, width):
        raise NoSize("it is no number from 1 to the width")
    windows = [(first, first + size - 1) for first in range(width - size + 1)]
    weave = Weave(width)
    for window in windows:
        weave.join_around(window, window[1] // size * size)
    return weave.net_of(windows)
