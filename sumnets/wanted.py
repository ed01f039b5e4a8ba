"""The windows that are wanted on the way down a tree of cases."""

from sumnets.levels import least_depth


class Wanted:
    """Wanted windows, each with its limit, and behind which places those that were cut are cut."""

    def __init__(self, windows, depth):
        self.limits = {}
        self.cuts = {}
        # What the limits were ahead of each change, so that a cut can be taken back.
        self.changes = []
        for window in windows:
            self.want(window, depth)

    def want(self, window, limit):
        """The window is wanted within the limit from now on, if it has more than one thing."""
        first, last = window
        before = self.limits.get(window)
        if first == last or (before is not None and before <= limit):
            return
        self.changes.append((window, before))
        self.limits[window] = limit
        if window in self.cuts:
            self.want_parts(window)

    def want_parts(self, window):
        """The two parts of a window that was cut are wanted with 1 less than its limit."""
        first, last = window
        behind = self.cuts[window]
        limit = self.limits[window] - 1
        self.want((first, behind), limit)
        self.want((behind + 1, last), limit)

    def cut(self, window, behind):
        """The window is cut behind this place; tells how many changes there were ahead of it."""
        since = len(self.changes)
        self.cuts[window] = behind
        self.want_parts(window)
        return since

    def uncut(self, window, since):
        """The last cut, that of this window, is taken back, with all changes since then."""
        del self.cuts[window]
        while len(self.changes) > since:
            changed, before = self.changes.pop()
            if before is None:
                del self.limits[changed]
            else:
                self.limits[changed] = before

    def is_too_deep(self, window):
        """Whether no net tells the wanted window within its limit."""
        first, last = window
        # A limit below 1 is less than the least depth of any wanted window, as that has two things or more.
        return self.limits[window] < least_depth(last - first + 1)
