"""Nets that are kept with what each part's beginnings come to, as things and parts change."""

from sumnets.errors import NoPlace
from sumnets.joinings import look_at_joining
from sumnets.kept import Kept, look_at_place
from sumnets.parting import look_at_begins
from sumnets.spans import look_at_beginnings
from sumnets.telling import look_at_full_row


class KeptParts:
    """A net kept by the joining that bears marks: a mark of 1 stands where a part begins."""

    def __init__(self, net, joining, things, begins):
        """NoNet, NotBeside, NoEnds, NoJoining, Bracketed, NoRow, NoThing, NoPlace."""
        look_at_beginnings(net)
        look_at_joining(("marked", joining))
        look_at_full_row(net, joining, things)
        look_at_begins(begins, net[0])
        self.net = net
        self.joining = joining
        marked = [(int(place in begins), thing) for place, thing in enumerate(things)]
        self.kept = Kept(net, ("marked", joining), tuple(marked))

    def thing_at(self, place):
        """The mark and the thing at the place."""
        return self.kept.held[place]

    def told(self):
        """A list, for each place what its part's things up to it come to."""
        return [thing for mark, thing in self.kept.told()]

    def begins(self):
        """A tuple of the places from 1 on at which parts begin."""
        return tuple(place for place in range(self.net[0]) if self.thing_at(place)[0] == 1)

    def parts(self):
        """A list, for each part (first place, last place, what its things come to)."""
        ends = self.told()
        starts = (0,) + self.begins()
        lasts = [start - 1 for start in starts[1:]] + [self.net[0] - 1]
        return [(first, last, ends[last]) for first, last in zip(starts, lasts)]

    def change(self, place, thing):
        """Another thing at the place; a tuple of the knots that are joined anew; NoPlace, NoThing."""
        look_at_place(place, 0, self.net[0])
        mark, before = self.thing_at(place)
        return self.kept.change(place, (mark, thing))

    def mark_anew(self, place, before, after):
        """The mark at the place, before until now, is after; the knots that are joined anew; NoPlace."""
        look_at_place(place, 1, self.net[0])
        mark, thing = self.thing_at(place)
        if mark != before:
            raise NoPlace("a part begins there already, or none does")
        return self.kept.change(place, (after, thing))

    def begin(self, place):
        """A part begins at the place; a tuple of the knots that are joined anew; NoPlace."""
        return self.mark_anew(place, 0, 1)

    def unite(self, place):
        """No part begins at the place any more; a tuple of the knots that are joined anew; NoPlace."""
        return self.mark_anew(place, 1, 0)

    def joins(self):
        """How many joinings were done since it was made, its making too."""
        return self.kept.joins()

    def copied(self):
        """The same once more, which goes its own way."""
        things = [self.thing_at(place)[1] for place in range(self.net[0])]
        copy = KeptParts(self.net, self.joining, tuple(things), self.begins())
        copy.kept = self.kept.copied()
        return copy
