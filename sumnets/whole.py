"""Whole numbers, and tuples of them: asked of anything that may be handed in."""


def is_whole(thing):
    """Whether thing is a number."""
    # To Python True and False are ints too, but the document counts them as no numbers.
    return isinstance(thing, int) and not isinstance(thing, bool)


def is_between(thing, low, high):
    """Whether thing is a number from low to high, both counted in."""
    return is_whole(thing) and low <= thing <= high


def is_tuple_of(thing, count):
    """Whether thing is a tuple of just so many parts, whatever they are."""
    return isinstance(thing, tuple) and len(thing) == count


def are_whole(things):
    """Whether things is a tuple of numbers, perhaps of none."""
    return isinstance(things, tuple) and all(is_whole(thing) for thing in things)


def are_between(things, low, high):
    """Whether things is a tuple of numbers from low to high, perhaps of none."""
    return isinstance(things, tuple) and all(is_between(thing, low, high) for thing in things)


def are_rising(numbers):
    """Whether each of the numbers is greater than the one before it."""
    return all(one < other for one, other in zip(numbers, numbers[1:]))
