"""Tables that tell what any two of a handful of numbers come to, and where they mind brackets."""

from sumnets.errors import NoJoining
from sumnets.whole import are_between, is_tuple_of

MOST_ROWS = 6


def is_row_of_table(row, count):
    """Whether row is a row of a table of count numbers."""
    return is_tuple_of(row, count) and are_between(row, 0, count - 1)


def is_table(rows):
    """Whether rows has the form of a table, minding brackets or not."""
    if not isinstance(rows, tuple) or not 1 <= len(rows) <= MOST_ROWS:
        return False
    return all(is_row_of_table(row, len(rows)) for row in rows)


def clashes_at(rows, x, y, z):
    """Whether a table comes to different numbers by the two ways to put brackets into x y z."""
    return rows[rows[x][y]][z] != rows[x][rows[y][z]]


def first_clash(rows):
    """The first three numbers at which a table clashes, or None."""
    count = len(rows)
    for x in range(count):
        for y in range(count):
            for z in range(count):
                if clashes_at(rows, x, y, z):
                    return (x, y, z)
    return None


def clash_of(rows):
    """The first three numbers at which the table rows clashes, or None; NoJoining where it is no table."""
    if not is_table(rows):
        raise NoJoining("the rows are no table")
    return first_clash(rows)


def clash_holds(rows, clash):
    """Whether clash is a tuple of three numbers of the table rows at which it clashes."""
    if not is_table(rows) or not is_tuple_of(clash, 3) or not are_between(clash, 0, len(rows) - 1):
        return False
    x, y, z = clash
    return clashes_at(rows, x, y, z)
