"""What several test files hand in: wrong things of every kind, deep things, joinings with things of theirs."""

import itertools

BIG = 10 ** 1300 - 1
NO_NUMBERS = (None, True, False, "", "0", "12", (), (0,), (1, 2), [], [0], {}, {0: 1}, ((0,),))
NO_TUPLES = (None, True, False, 0, 1, -1, BIG, "", "rows", [], [0], [[0]], {}, {0: 1}, {"rows": 0})


def deep_tuple(depth, core=0):
    for step in range(depth):
        core = (core,)
    return core


def deep_list(depth, core=0):
    for step in range(depth):
        core = [core]
    return core


def deep_dict(depth, core=0):
    for step in range(depth):
        core = {"rows": core}
    return core


def deep_turned(depth):
    """A joining within "turned", so that all of it is depth deep."""
    core = ("rows",)
    for step in range(depth - 1):
        core = ("turned", core)
    return core


DEEP = (deep_tuple(160), deep_list(160), deep_dict(160), deep_turned(160), deep_tuple(159, True))

# Tables that mind no brackets: numbers added around a clock, the left one, the greater one, the multiplied ones.
CLOCK = tuple(tuple((x + y) % 6 for y in range(6)) for x in range(6))
LEFT = ((0, 0), (1, 1))
GREATER = tuple(tuple(max(x, y) for y in range(3)) for x in range(3))
TIMES = tuple(tuple((x * y) % 4 for y in range(4)) for x in range(4))
# The turns of a triangle: the order of two matters, brackets don't.
TURNS = list(itertools.permutations(range(3)))
TRIANGLE = tuple(
    tuple(TURNS.index(tuple(TURNS[y][TURNS[x][k]] for k in range(3))) for y in range(6)) for x in range(6))
ONE_NUMBER = ((0,),)

# A table that minds brackets: taking away, around a clock of three.
MINUS = tuple(tuple((x - y) % 3 for y in range(3)) for x in range(3))
# Another one, which first clashes elsewhere.
NOT_BOTH = ((1, 1), (1, 0))

# Joinings that mind no brackets, with some things of each.
JOININGS = [
    (("rows",), [(), (1,), (2, -3), (4, 5, 6)]),
    (("plus",), [0, 1, -7, BIG]),
    (("least",), [0, 1, -7, BIG]),
    (("greatest",), [0, 1, -7, -BIG]),
    (("first",), [3, 1, 2]),
    (("last",), [3, 1, 2]),
    (("lines",), [(1, 0), (2, 3), (-1, 4), (0, 5)]),
    (("table", CLOCK), [0, 1, 4, 5]),
    (("table", LEFT), [0, 1]),
    (("table", GREATER), [0, 1, 2]),
    (("table", TIMES), [0, 1, 2, 3]),
    (("table", TRIANGLE), [0, 1, 2, 3, 4, 5]),
    (("table", ONE_NUMBER), [0]),
    (("turned", ("rows",)), [(), (1,), (2, 3)]),
    (("turned", ("lines",)), [(1, 0), (2, 3), (-1, 4)]),
    (("turned", ("table", TRIANGLE)), [1, 2, 3, 4]),
    (("both", ("rows",), ("lines",)), [((1,), (2, 3)), ((), (0, 1)), ((2, 3), (-1, 1))]),
    (("both", ("plus",), ("table", LEFT)), [(1, 0), (2, 1), (3, 0)]),
    (("marked", ("rows",)), [(0, (1,)), (1, (2,)), (0, ()), (1, ())]),
    (("marked", ("lines",)), [(0, (2, 3)), (1, (3, 1)), (0, (5, -1))]),
    (("marked", ("turned", ("rows",))), [(0, (1,)), (1, (2,)), (0, (3,))]),
    (("turned", ("marked", ("rows",))), [(0, (1,)), (1, (2,)), (0, (3,))]),
    (("marked", ("marked", ("rows",))), [(0, (0, (1,))), (0, (1, (2,))), (1, (0, (3,))), (1, (1, (4,)))]),
    (("both", ("turned", ("marked", ("rows",))), ("marked", ("both", ("plus",), ("last",)))),
     [((0, (1,)), (1, (2, 3))), ((1, (2,)), (0, (4, 5))), ((0, (3,)), (0, (6, 7)))]),
]


def error_of(call, *arguments):
    """The error that a call raises, or None."""
    try:
        call(*arguments)
    except Exception as error:
        return error
    return None


def one_by_one_net(width):
    """A net that tells all beginnings, each of the one before and of the next thing."""
    knots = [(0, 1)] if width > 1 else []
    for place in range(2, width):
        knots.append((width + place - 2, place))
    return (width, tuple(knots), (0,) + tuple(range(width, width + len(knots))))


def stepped_net(width):
    """A net that tells all beginnings with steps of 1, 2, 4 and so on."""
    knots = []
    values = list(range(width))
    step = 1
    while step < width:
        before = list(values)
        for place in range(step, width):
            values[place] = width + len(knots)
            knots.append((before[place - step], before[place]))
        step *= 2
    return (width, tuple(knots), tuple(values))


def doubling_chain(count):
    """A net that isn't right: each knot is of the one before it twice."""
    return (1, tuple((number, number) for number in range(count)), (count,))


def random_net(dice, width, count):
    """A net that is most likely not right."""
    knots = tuple((dice.randrange(number), dice.randrange(number)) for number in range(width, width + count))
    ends = tuple(dice.randrange(width + count) for end in range(dice.randrange(1, 9)))
    return (width, knots, ends)


def random_right_net(dice, width, count):
    """A right net, some of its knots needless, with the spans of its knots and of its ends."""
    spans = [(place, place) for place in range(width)]
    knots = []
    for step in range(count if width > 1 else 0):
        pairs = [
            (left, right) for left in range(len(spans)) for right in range(len(spans))
            if spans[left][1] + 1 == spans[right][0]]
        left, right = dice.choice(pairs)
        knots.append((left, right))
        spans.append((spans[left][0], spans[right][1]))
    ends = tuple(dice.randrange(len(spans)) for end in range(dice.randrange(1, 9)))
    return (width, tuple(knots), ends), tuple(spans[width:]), tuple(spans[end] for end in ends)


WRONG_NETS = NO_TUPLES + DEEP + (
    (), (1,), (1, ()), (1, (), (0,), ()), [1, (), (0,)], ((1, (), (0,)),), "net", {1: ()},
    # The width.
    (0, (), (0,)), (-1, (), (0,)), (65, (), (0,)), (BIG, (), (0,)), (-BIG, (), (0,)), (True, (), (0,)),
    (False, (), (0,)), (None, (), (0,)), ("1", (), (0,)), ((1,), (), (0,)), ([1], (), (0,)), ({}, (), (0,)),
    # The knots.
    (2, None, (0,)), (2, 0, (0,)), (2, "", (0,)), (2, [], (0,)), (2, [(0, 1)], (0,)), (2, {}, (0,)), (2, True, (0,)),
    (2, (0, 1), (0,)), (2, ([0, 1],), (0,)), (2, ((0,),), (0,)), (2, ((0, 1, 1),), (0,)), (2, ((),), (0,)),
    (2, ("01",), (0,)), (2, (None,), (0,)), (2, ({0: 1, 1: 0},), (0,)), (2, ((0, True),), (0,)),
    (2, ((False, 1),), (0,)), (2, ((0, None),), (0,)), (2, (("0", 1),), (0,)), (2, ((0, (1,)),), (0,)),
    (2, ((0, [1]),), (0,)), (2, ((0, 2),), (0,)), (2, ((2, 0),), (0,)), (2, ((0, -1),), (0,)), (2, ((-1, 0),), (0,)),
    (2, ((0, BIG),), (0,)), (2, ((0, 3), (0, 1)), (0,)), (2, ((0, 1), (0, 3)), (0,)), (2, ((0, 1), (3, 0)), (0,)),
    (2, ((0, 1), None), (0,)), (2, ((0, 1), (0, 1), (0, 5)), (0,)), (2, ((0, 1),) * 1001, (0,)),
    (2, (deep_tuple(158),), (0,)), (2, ((0, deep_tuple(157)),), (0,)), (2, deep_list(159), (0,)),
    # The ends.
    (2, (), ()), (2, (), None), (2, (), 0), (2, (), [0]), (2, (), "0"), (2, (), {0: 0}), (2, (), (True,)),
    (2, (), (0, False)), (2, (), (None,)), (2, (), ("0",)), (2, (), ((0,),)), (2, (), ([0],)), (2, (), (2,)),
    (2, (), (-1,)), (2, (), (BIG,)), (2, (), (0, 1, 2)), (2, ((0, 1),), (0, 3)), (2, ((0, 1),), (-1, 0)),
    (2, (), (0,) * 401), (2, (), deep_tuple(159)), (2, (), deep_list(159)), (2, (), True),
)
# Each with the number of the first knot whose two don't lie side by side.
NETS_NOT_BESIDE = [
    ((1, ((0, 0),), (0,)), 1),
    ((2, ((1, 0),), (2,)), 2),
    ((2, ((0, 0),), (0,)), 2),
    ((3, ((0, 2),), (3,)), 3),
    ((3, ((0, 1), (1, 2), (3, 4)), (5,)), 5),
    ((3, ((0, 1), (3, 2), (2, 3), (0, 0)), (4,)), 5),
    ((4, ((0, 1), (2, 3), (5, 4)), (6,)), 6),
    ((4, ((0, 1), (2, 3), (4, 3), (4, 5)), (7,)), 6),
    ((64, ((0, 63),), (64,)), 64),
    (doubling_chain(1000), 1),
]
