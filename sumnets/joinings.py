"""Joinings: their forms, their things, and what two things come to."""

from sumnets.errors import Bracketed, NoJoining, NoThing
from sumnets.tables import first_clash, is_table
from sumnets.whole import are_whole, is_between, is_tuple_of, is_whole

MOST_DEEP = 4

# How many joinings stand within one, by its word. Tables hold rows instead, so they are looked at by themselves.
WITHIN = {
    "rows": 0,
    "plus": 0,
    "least": 0,
    "greatest": 0,
    "first": 0,
    "last": 0,
    "lines": 0,
    "turned": 1,
    "both": 2,
    "marked": 1,
}


def has_form(joining, room):
    """Whether joining has the form of one that is at most room deep."""
    if room < 1 or not isinstance(joining, tuple) or not joining:
        return False
    word = joining[0]
    if not isinstance(word, str):
        return False
    if word == "table":
        return len(joining) == 2 and is_table(joining[1])
    if WITHIN.get(word) != len(joining) - 1:
        return False
    return all(has_form(inner, room - 1) for inner in joining[1:])


def look_at_form(joining):
    """NoJoining where joining isn't of the form."""
    if not has_form(joining, MOST_DEEP):
        raise NoJoining("it isn't of the form of a joining")


def first_clash_within(joining):
    """Where the first table in joining that minds brackets clashes, or None."""
    if joining[0] == "table":
        return first_clash(joining[1])
    for inner in joining[1:]:
        clash = first_clash_within(inner)
        if clash is not None:
            return clash
    return None


def look_at_joining(joining):
    """None; NoJoining where joining isn't of the form, Bracketed where a table in it minds brackets."""
    look_at_form(joining)
    clash = first_clash_within(joining)
    if clash is not None:
        one, two, three = clash
        raise Bracketed(one, two, three)


def is_pair_of_things(joining, thing):
    """Whether thing is a tuple of a thing of each joining within "both"."""
    return is_tuple_of(thing, 2) and fits(joining[1], thing[0]) and fits(joining[2], thing[1])


def is_marked_thing(joining, thing):
    """Whether thing is a tuple of a mark and a thing of the joining within "marked"."""
    return is_tuple_of(thing, 2) and is_between(thing[0], 0, 1) and fits(joining[1], thing[1])


def fits(joining, thing):
    """Whether thing is a thing of a joining that has the form."""
    word = joining[0]
    if word == "rows":
        return are_whole(thing)
    if word == "lines":
        return is_tuple_of(thing, 2) and are_whole(thing)
    if word == "table":
        return is_between(thing, 0, len(joining[1]) - 1)
    if word == "turned":
        return fits(joining[1], thing)
    if word == "both":
        return is_pair_of_things(joining, thing)
    if word == "marked":
        return is_marked_thing(joining, thing)
    return is_whole(thing)


def is_thing(joining, thing):
    """Whether thing is a thing of joining, its tables minding brackets or not; NoJoining."""
    look_at_form(joining)
    return fits(joining, thing)


def look_at_things(joining, things):
    """NoThing where one of things is none of a joining that has the form."""
    for thing in things:
        if not fits(joining, thing):
            raise NoThing("it is no thing of the joining")


def row_behind_row(one, other):
    """What two tuples of numbers come to by rows."""
    return one + other


def total(one, other):
    """What two numbers come to by plus."""
    return one + other


def lesser(one, other):
    """What two numbers come to by least."""
    return min(one, other)


def greater(one, other):
    """What two numbers come to by greatest."""
    return max(one, other)


def former(one, other):
    """What two numbers come to by first."""
    return one


def latter(one, other):
    """What two numbers come to by last."""
    return other


def line_behind_line(one, other):
    """What two lines come to: the line one taken first, then the line other."""
    a, b = one
    c, d = other
    return (a * c, b * c + d)


ALONE = {
    "rows": row_behind_row,
    "plus": total,
    "least": lesser,
    "greatest": greater,
    "first": former,
    "last": latter,
    "lines": line_behind_line,
}


def marked_come_to(joining, one, other):
    """What two marked things come to: a mark of 1 leaves behind what stands ahead of it."""
    mark, thing = one
    next_mark, next_thing = other
    if next_mark == 1:
        return (1, next_thing)
    return (mark, come_to(joining, thing, next_thing))


def come_to(joining, one, other):
    """What two things of a joining that was looked at come to."""
    word = joining[0]
    if word == "table":
        return joining[1][one][other]
    if word == "turned":
        return come_to(joining[1], other, one)
    if word == "both":
        return (come_to(joining[1], one[0], other[0]), come_to(joining[2], one[1], other[1]))
    if word == "marked":
        return marked_come_to(joining[1], one, other)
    action = ALONE[word]
    return action(one, other)


def joined(joining, one, other):
    """What one and the next thing, other, come to; NoJoining, Bracketed, NoThing."""
    look_at_joining(joining)
    look_at_things(joining, (one, other))
    return come_to(joining, one, other)
