"""What the program refuses: one error class for each kind of refusal."""


class NetError(ValueError):
    """Any refusal of this program."""


class NoJoining(NetError):
    """What should be a joining isn't of the form of one."""


class Bracketed(NetError):
    """A table minds brackets, as its numbers one, two and three show."""

    def __init__(self, one, two, three):
        NetError.__init__(self, f"brackets matter to the table at {one}, {two}, {three}")
        self.one = one
        self.two = two
        self.three = three


class NoThing(NetError):
    """What should be a thing of a joining is none."""


class NoRow(NetError):
    """What should be a row is none."""


class NoWindow(NetError):
    """What should be a window, or a tuple of windows, is none."""


class NoNet(NetError):
    """What should be a net isn't of the form of one."""


class NotBeside(NetError):
    """The two of the knot with the number knot don't lie side by side."""

    def __init__(self, knot):
        NetError.__init__(self, f"the two of knot {knot} don't lie side by side")
        self.knot = knot


class NoPaper(NetError):
    """What should be a paper of blocks is none."""


class NoWidth(NetError):
    """What should be a width is none."""


class NoSpare(NetError):
    """What should be a spare is none."""


class NoSize(NetError):
    """What should be a size is none."""


class NoEnds(NetError):
    """The ends of a net don't tell its beginnings."""


class NoDepth(NetError):
    """What should be a depth is none."""


class TooShallow(NetError):
    """A window has more things than the depth allows."""


class TooMany(NetError):
    """There are more things, knots or windows than are allowed."""


class NoPlace(NetError):
    """What should be a place, or a tuple of places, is none."""


class NoHands(NetError):
    """What should be a number of hands is none."""


class NoRounds(NetError):
    """What should be rounds of a net is none."""


class NoText(NetError):
    """What should be the text of a net is none."""


class NoName(NetError):
    """Nothing is kept by a name."""


class NoThings(NetError):
    """There are more or fewer things than the net is wide."""
