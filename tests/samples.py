"""What several test files hand in: wrong things of every kind, deep things, joinings with things of theirs."""

import itertools

BIG = 10 ** 1300 - 1
NO_NUMBERS = (None, True, False, "", "0", "12", (), (0,), (1, 2), [], [0], {}, {0: 1}, ((0,),))
NO_TUPLES = (None, True, False, 0, 1, -1, BIG, "", "rows", [], [0], [[0]], {}, {0: 1}, {"rows": 0})


def deep_tuple(depth, core=0):
    for step in range(depth):
        core = (core,)
    return core


def deep_list(depth, core=0):
    for step in range(depth):
        core = [core]
    return core


def deep_dict(depth, core=0):
    for step in range(depth):
        core = {"rows": core}
    return core


def deep_turned(depth):
    """A joining within "turned", so that all of it is depth deep."""
    core = ("rows",)
    for step in range(depth - 1):
        core = ("turned", core)
    return core


DEEP = (deep_tuple(160), deep_list(160), deep_dict(160), deep_turned(160), deep_tuple(159, True))

# Tables that mind no brackets: numbers added around a clock, the left one, the greater one, the multiplied ones.
CLOCK = tuple(tuple((x + y) % 6 for y in range(6)) for x in range(6))
LEFT = ((0, 0), (1, 1))
GREATER = tuple(tuple(max(x, y) for y in range(3)) for x in range(3))
TIMES = tuple(tuple((x * y) % 4 for y in range(4)) for x in range(4))
# The turns of a triangle: the order of two matters, brackets don't.
TURNS = list(itertools.permutations(range(3)))
TRIANGLE = tuple(
    tuple(TURNS.index(tuple(TURNS[y][TURNS[x][k]] for k in range(3))) for y in range(6)) for x in range(6))
ONE_NUMBER = ((0,),)

# A table that minds brackets: taking away, around a clock of three.
MINUS = tuple(tuple((x - y) % 3 for y in range(3)) for x in range(3))
# Another one, which first clashes elsewhere.
NOT_BOTH = ((1, 1), (1, 0))

# Joinings that mind no brackets, with some things of each.
JOININGS = [
    (("rows",), [(), (1,), (2, -3), (4, 5, 6)]),
    (("plus",), [0, 1, -7, BIG]),
    (("least",), [0, 1, -7, BIG]),
    (("greatest",), [0, 1, -7, -BIG]),
    (("first",), [3, 1, 2]),
    (("last",), [3, 1, 2]),
    (("lines",), [(1, 0), (2, 3), (-1, 4), (0, 5)]),
    (("table", CLOCK), [0, 1, 4, 5]),
    (("table", LEFT), [0, 1]),
    (("table", GREATER), [0, 1, 2]),
    (("table", TIMES), [0, 1, 2, 3]),
    (("table", TRIANGLE), [0, 1, 2, 3, 4, 5]),
    (("table", ONE_NUMBER), [0]),
    (("turned", ("rows",)), [(), (1,), (2, 3)]),
    (("turned", ("lines",)), [(1, 0), (2, 3), (-1, 4)]),
    (("turned", ("table", TRIANGLE)), [1, 2, 3, 4]),
    (("both", ("rows",), ("lines",)), [((1,), (2, 3)), ((), (0, 1)), ((2, 3), (-1, 1))]),
    (("both", ("plus",), ("table", LEFT)), [(1, 0), (2, 1), (3, 0)]),
    (("marked", ("rows",)), [(0, (1,)), (1, (2,)), (0, ()), (1, ())]),
    (("marked", ("lines",)), [(0, (2, 3)), (1, (3, 1)), (0, (5, -1))]),
    (("marked", ("turned", ("rows",))), [(0, (1,)), (1, (2,)), (0, (3,))]),
    (("turned", ("marked", ("rows",))), [(0, (1,)), (1, (2,)), (0, (3,))]),
    (("marked", ("marked", ("rows",))), [(0, (0, (1,))), (0, (1, (2,))), (1, (0, (3,))), (1, (1, (4,)))]),
    (("both", ("turned", ("marked", ("rows",))), ("marked", ("both", ("plus",), ("last",)))),
     [((0, (1,)), (1, (2, 3))), ((1, (2,)), (0, (4, 5))), ((0, (3,)), (0, (6, 7)))]),
]

# Joinings with a table that minds brackets, each with where the first such table first clashes and with a thing of it.
BRACKETED = [
    (("table", MINUS), (0, 0, 1), 0),
    (("turned", ("table", NOT_BOTH)), (0, 0, 1), 1),
    (("both", ("rows",), ("table", MINUS)), (0, 0, 1), ((1,), 2)),
    (("both", ("table", ((0, 1), (0, 0))), ("table", MINUS)), (1, 0, 1), (1, 2)),
    (("marked", ("turned", ("table", ((0, 1), (0, 0))))), (1, 0, 1), (1, 0)),
    (("turned", ("both", ("marked", ("table", ((0, 1), (0, 0)))), ("plus",))), (1, 0, 1), ((0, 1), 7)),
]


def joining_depth(joining):
    """How deep a joining is."""
    return 1 + max((joining_depth(inner) for inner in joining[1:] if joining[0] != "table"), default=0)


def random_row(dice, things, width):
    """A row of so many of these things."""
    return tuple(dice.choice(things) for place in range(width))


def error_of(call, *arguments):
    """The error that a call raises, or None."""
    try:
        call(*arguments)
    except Exception as error:
        return error
    return None


def one_by_one_net(width):
    """A net that tells all beginnings, each of the one before and of the next thing."""
    knots = [(0, 1)] if width > 1 else []
    for place in range(2, width):
        knots.append((width + place - 2, place))
    return (width, tuple(knots), (0,) + tuple(range(width, width + len(knots))))


def stepped_net(width):
    """A net that tells all beginnings with steps of 1, 2, 4 and so on."""
    knots = []
    values = list(range(width))
    step = 1
    while step < width:
        before = list(values)
        for place in range(step, width):
            values[place] = width + len(knots)
            knots.append((before[place - step], before[place]))
        step *= 2
    return (width, tuple(knots), tuple(values))


def doubling_chain(count):
    """A net that isn't right: each knot is of the one before it twice."""
    return (1, tuple((number, number) for number in range(count)), (count,))


def random_net(dice, width, count):
    """A net that is most likely not right."""
    knots = tuple((dice.randrange(number), dice.randrange(number)) for number in range(width, width + count))
    ends = tuple(dice.randrange(width + count) for end in range(dice.randrange(1, 9)))
    return (width, knots, ends)


def random_right_net(dice, width, count):
    """A right net, some of its knots needless, with the spans of its knots and of its ends."""
    spans = [(place, place) for place in range(width)]
    knots = []
    for step in range(count if width > 1 else 0):
        pairs = [
            (left, right) for left in range(len(spans)) for right in range(len(spans))
            if spans[left][1] + 1 == spans[right][0]]
        left, right = dice.choice(pairs)
        knots.append((left, right))
        spans.append((spans[left][0], spans[right][1]))
    ends = tuple(dice.randrange(len(spans)) for end in range(dice.randrange(1, 9)))
    return (width, tuple(knots), ends), tuple(spans[width:]), tuple(spans[end] for end in ends)


def all_rounds(net, hands):
    """All rows of rounds of a small net that hold."""
    width, knots, ends = net

    def go_on(done):
        if len(done) == len(knots):
            yield ()
        ready = [number for number, knot in enumerate(knots, start=width)
                 if number not in done and all(part < width or part in done for part in knot)]
        for count in range(1, hands + 1):
            for numbers in itertools.combinations(ready, count):
                for rest in go_on(done | set(numbers)):
                    yield (numbers,) + rest

    return list(go_on(frozenset()))


WRONG_NETS = NO_TUPLES + DEEP + (
    (), (1,), (1, ()), (1, (), (0,), ()), [1, (), (0,)], ((1, (), (0,)),), "net", {1: ()},
    # The width.
    (0, (), (0,)), (-1, (), (0,)), (65, (), (0,)), (BIG, (), (0,)), (-BIG, (), (0,)), (True, (), (0,)),
    (False, (), (0,)), (None, (), (0,)), ("1", (), (0,)), ((1,), (), (0,)), ([1], (), (0,)), ({}, (), (0,)),
    # The knots.
    (2, None, (0,)), (2, 0, (0,)), (2, "", (0,)), (2, [], (0,)), (2, [(0, 1)], (0,)), (2, {}, (0,)), (2, True, (0,)),
    (2, (0, 1), (0,)), (2, ([0, 1],), (0,)), (2, ((0,),), (0,)), (2, ((0, 1, 1),), (0,)), (2, ((),), (0,)),
    (2, ("01",), (0,)), (2, (None,), (0,)), (2, ({0: 1, 1: 0},), (0,)), (2, ((0, True),), (0,)),
    (2, ((False, 1),), (0,)), (2, ((0, None),), (0,)), (2, (("0", 1),), (0,)), (2, ((0, (1,)),), (0,)),
    (2, ((0, [1]),), (0,)), (2, ((0, 2),), (0,)), (2, ((2, 0),), (0,)), (2, ((0, -1),), (0,)), (2, ((-1, 0),), (0,)),
    (2, ((0, BIG),), (0,)), (2, ((0, 3), (0, 1)), (0,)), (2, ((0, 1), (0, 3)), (0,)), (2, ((0, 1), (3, 0)), (0,)),
    (2, ((0, 1), None), (0,)), (2, ((0, 1), (0, 1), (0, 5)), (0,)), (2, ((0, 1),) * 1001, (0,)),
    (2, (deep_tuple(158),), (0,)), (2, ((0, deep_tuple(157)),), (0,)), (2, deep_list(159), (0,)),
    # The ends.
    (2, (), ()), (2, (), None), (2, (), 0), (2, (), [0]), (2, (), "0"), (2, (), {0: 0}), (2, (), (True,)),
    (2, (), (0, False)), (2, (), (None,)), (2, (), ("0",)), (2, (), ((0,),)), (2, (), ([0],)), (2, (), (2,)),
    (2, (), (-1,)), (2, (), (BIG,)), (2, (), (0, 1, 2)), (2, ((0, 1),), (0, 3)), (2, ((0, 1),), (-1, 0)),
    (2, (), (0,) * 401), (2, (), deep_tuple(159)), (2, (), deep_list(159)), (2, (), True),
)
# Each with the number of the first knot whose two don't lie side by side.
NETS_NOT_BESIDE = [
    ((1, ((0, 0),), (0,)), 1),
    ((2, ((1, 0),), (2,)), 2),
    ((2, ((0, 0),), (0,)), 2),
    ((3, ((0, 2),), (3,)), 3),
    ((3, ((0, 1), (1, 2), (3, 4)), (5,)), 5),
    ((3, ((0, 1), (3, 2), (2, 3), (0, 0)), (4,)), 5),
    ((4, ((0, 1), (2, 3), (5, 4)), (6,)), 6),
    ((4, ((0, 1), (2, 3), (4, 3), (4, 5)), (7,)), 6),
    ((64, ((0, 63),), (64,)), 64),
    (doubling_chain(1000), 1),
]

T = ("steps", 2)
ONE = ("steps", 1)


def deep_over(depth, core=T):
    """A paper of width 2, so deep, each one the over of the next one."""
    for step in range(depth - 1):
        core = ("blocks", core, (ONE, ONE))
    return core


def deep_blocks(depth, core=T):
    """A paper so deep, each one the first block of the next one."""
    for step in range(depth - 1):
        core = ("blocks", T, (core, ONE))
    return core


def heavy_behind(width):
    """A paper of width * (width - 1) / 2 knots, each one the last block of the next one."""
    paper = ONE
    for step in range(width - 1):
        paper = ("blocks", T, (ONE, paper))
    return paper


# Of 990, 1000 and 1001 knots; 1001 and more are too many.
KNOTS_990 = heavy_behind(45)
KNOTS_1000 = ("blocks", T, (heavy_behind(5), heavy_behind(44)))
KNOTS_1001 = ("blocks", T, (("blocks", T, (heavy_behind(5), ONE)), heavy_behind(44)))


def random_paper(dice, width, room):
    """A paper of this width, at most room deep."""
    if width < 2 or room < 2 or dice.random() < 0.3:
        return ("steps", width)
    count = dice.randrange(2, width + 1)
    cuts = [0] + sorted(dice.sample(range(1, width), count - 1)) + [width]
    blocks = tuple(random_paper(dice, behind - first, room - 1) for first, behind in zip(cuts, cuts[1:]))
    return ("blocks", random_paper(dice, count, room - 1), blocks)


# Papers with what they build, by hand.
BUILT = [
    (ONE, (1, (), (0,))),
    (T, (2, ((0, 1),), (0, 2))),
    (("steps", 3), (3, ((0, 1), (1, 2), (0, 4)), (0, 3, 5))),
    (("steps", 4), (4, ((0, 1), (1, 2), (2, 3), (0, 5), (4, 6)), (0, 4, 7, 8))),
    (("blocks", T, (ONE, ONE)), (2, ((0, 1),), (0, 2))),
    (("blocks", T, (T, T)), (4, ((0, 1), (2, 3), (4, 5), (4, 2)), (0, 4, 7, 6))),
    (("blocks", T, (ONE, ("steps", 3))), (4, ((1, 2), (2, 3), (1, 5), (0, 6), (0, 1), (0, 4)), (0, 8, 9, 7))),
    (("blocks", ("steps", 3), (T, T, T)),
     (6, ((0, 1), (2, 3), (4, 5), (6, 7), (7, 8), (6, 10), (6, 2), (9, 4)), (0, 6, 12, 9, 13, 11))),
    (("blocks", ("blocks", T, (T, ONE)), (T, ONE, T)),
     (5, ((0, 1), (3, 4), (5, 2), (7, 6), (7, 3)), (0, 5, 7, 9, 8))),
    (("blocks", T, (T, ("blocks", T, (T, ONE)))),
     (5, ((0, 1), (2, 3), (6, 4), (5, 7), (5, 2), (5, 6)), (0, 5, 9, 10, 8))),
]
PAPERS = [paper for paper, net in BUILT] + [
    ("steps", 5), ("steps", 33), ("steps", 63), ("steps", 64), ("blocks", ("steps", 64), (ONE,) * 64),
    ("blocks", ("steps", 32), (T,) * 32), ("blocks", T, (("steps", 32), ("steps", 32))),
    ("blocks", T, (("steps", 63), ONE)), ("blocks", T, (ONE, ("steps", 63))), deep_over(69), deep_over(70),
    deep_blocks(63), deep_over(8, deep_over(63)), heavy_behind(6), KNOTS_990, KNOTS_1000,
]

# What is no paper, and so makes none of what it stands in.
WRONG_PARTS = NO_TUPLES + DEEP + (
    (), ("steps",), ("steps", 2, 2), ("step", 2), ("Steps", 2), ("blocks", 2), (2, "steps"), ["steps", 2],
    ("steps", [2]), ("steps", 0), ("steps", -1), ("steps", 65), ("steps", BIG), ("steps", -BIG), ("steps", True),
    ("steps", False), ("steps", None), ("steps", "2"), ("steps", (2,)), ("steps", {}), (("steps",), 2), (None, 2),
    (True, 2), "steps", {"steps": 2}, (("steps", 2),), ("steps", deep_tuple(100)), (deep_list(100), 2),
)
WRONG_PAPERS = WRONG_PARTS + (
    ("blocks",), ("blocks", T), ("blocks", T, (T, T), ()), ["blocks", T, (T, T)], ("block", T, (T, T)),
    ("steps", T, (T, T)), (None, T, (T, T)), (("blocks",), T, (T, T)), (T, "blocks", (T, T)), ("blocks", (T, T), T),
    # The blocks.
    ("blocks", T, [T, T]), ("blocks", T, {0: T, 1: T}), ("blocks", T, None), ("blocks", T, "TT"), ("blocks", T, 2),
    ("blocks", T, T), ("blocks", T, True), ("blocks", ONE, (T,)), ("blocks", ONE, ()), ("blocks", T, ()),
    ("blocks", T, (T,)), ("blocks", T, (ONE,)), ("blocks", ("steps", 0), ()),
    # Over narrower or wider than there are blocks.
    ("blocks", ONE, (T, T)), ("blocks", ("steps", 3), (T, T)), ("blocks", T, (T, T, T)),
    ("blocks", ("steps", 4), (T, T)), ("blocks", ("blocks", T, (T, T)), (ONE,) * 3),
    # Too wide.
    ("blocks", T, (("steps", 64), ONE)), ("blocks", T, (ONE, ("steps", 64))),
    ("blocks", ("steps", 64), (ONE,) * 63 + (T,)),
    ("blocks", ("steps", 33), (T,) * 33), ("blocks", ("steps", 65), (ONE,) * 65), ("blocks", T, (ONE,) * 2000),
    # Too deep.
    deep_over(71), deep_over(72), deep_over(160), ("blocks", deep_over(70), (ONE, ONE)),
    ("blocks", T, (ONE, deep_over(70))), ("blocks", T, (deep_over(70), ONE)), deep_blocks(71), deep_blocks(160),
    # Too many knots.
    KNOTS_1001, heavy_behind(46), heavy_behind(64), ("blocks", T, (KNOTS_1000, ONE)),
    ("blocks", T, (ONE, KNOTS_990)), ("blocks", T, (ONE, KNOTS_1001)),
)


def paper_places(paper, path=()):
    """The paths to all papers within a paper, itself too."""
    yield path
    if paper[0] == "blocks":
        yield from paper_places(paper[1], path + (1,))
        for at, block in enumerate(paper[2]):
            yield from paper_places(block, path + (2, at))


def changed_at(tuples, path, new):
    """The same tuples within tuples, but for what stands at the end of the path."""
    if not path:
        return new
    at = path[0]
    return tuples[:at] + (changed_at(tuples[at], path[1:], new),) + tuples[at + 1:]


def tree_parts(tree):
    """How many trees are in a tree of cases, itself too."""
    return 1 + sum(tree_parts(branch) for branch in tree[2]) if tree[0] == "cut" else 1


def tree_places(tree, path=()):
    """The paths to all trees within a tree of cases, itself too."""
    yield path
    if tree[0] == "cut":
        for at, branch in enumerate(tree[2]):
            yield from tree_places(branch, path + (2, at))


def at_path(tuples, path):
    """What stands at the end of the path within tuples."""
    for at in path:
        tuples = tuples[at]
    return tuples
