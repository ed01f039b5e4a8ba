"""Nets that are kept with what their knots come to, as things change."""

from sumnets.errors import NoPlace
from sumnets.joinings import come_to, look_at_things
from sumnets.spans import all_spans
from sumnets.telling import values_of
from sumnets.whole import is_between


def look_at_place(place, first, width):
    """NoPlace where place isn't one from first on of a net of this width."""
    if not is_between(place, first, width - 1):
        raise NoPlace("it is no such place of the net")


class Kept:
    """A net with what its things and knots come to."""

    def __init__(self, net, joining, things):
        """NoNet, NotBeside, NoJoining, Bracketed, NoRow, NoThing."""
        self.held = values_of(net, joining, things)
        self.net = net
        self.joining = joining
        self.spans = all_spans(net)
        self.joinings_done = len(net[1])

    def told(self):
        """A list of what the ends come to."""
        return [self.held[end] for end in self.net[2]]

    def knots_told(self):
        """A list of what the knots come to."""
        return self.held[self.net[0]:]

    def change(self, place, thing):
        """Another thing at the place; a tuple of the knots that are joined anew; NoPlace, NoThing."""
        width, knots, ends = self.net
        look_at_place(place, 0, width)
        look_at_things(self.joining, (thing,))
        self.held[place] = thing
        anew = []
        for number, (left, right) in enumerate(knots, start=width):
            first, last = self.spans[number]
            if first <= place <= last:
                self.held[number] = come_to(self.joining, self.held[left], self.held[right])
                anew.append(number)
        self.joinings_done += len(anew)
        return tuple(anew)

    def joins(self):
        """How many joinings were done since it was made, its making too."""
        return self.joinings_done

    def copied(self):
        """The same once more, which goes its own way."""
        copy = Kept(self.net, self.joining, tuple(self.held[:self.net[0]]))
        # The copy begins with what was counted here, not with its own making.
        copy.joinings_done = self.joinings_done
        return copy
