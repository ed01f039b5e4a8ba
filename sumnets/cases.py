"""Trees of cases that show that no net tells some windows within a depth with fewer knots."""

from sumnets.nets import MOST_WIDE
from sumnets.rows import are_windows
from sumnets.wanted import Wanted
from sumnets.whole import are_whole, is_between

MOST_TREES = 20000
MOST_DEEP = 70
MOST_NUMBER = 1000


def trees_in(tree, room):
    """How many trees are in a tree that is at most room deep, itself too; None where it is no tree, or of too many."""
    if room < 1 or not isinstance(tree, tuple) or not tree:
        return None
    word = tree[0]
    if word == "many":
        return 1 if len(tree) == 1 else None
    if word == "deep":
        return 1 if len(tree) == 2 else None
    if word != "cut" or len(tree) != 3 or not isinstance(tree[2], tuple):
        return None
    count = 1
    for branch in tree[2]:
        more = trees_in(branch, room - 1)
        if more is None or count + more > MOST_TREES:
            return None
        count += more
    return count


def is_tree(tree):
    """Whether tree has the form of a tree of cases; its windows may be anything."""
    return trees_in(tree, MOST_DEEP) is not None


def is_wanted(wanted, window):
    """Whether window, which may be anything, is a wanted one."""
    # A list couldn't be looked up, and to Python (False, True) is (0, 1).
    return are_whole(window) and window in wanted.limits


def is_right(tree, wanted, number):
    """Whether a tree shows that what is wanted needs number knots or more."""
    if tree[0] == "many":
        return len(wanted.limits) >= number
    if not is_wanted(wanted, tree[1]):
        return False
    if tree[0] == "deep":
        return wanted.is_too_deep(tree[1])
    return is_right_cut(tree[1], tree[2], wanted, number)


def is_right_cut(window, branches, wanted, number):
    """Whether the branches show it for each place behind which the wanted window can be cut."""
    first, last = window
    if window in wanted.cuts or len(branches) != last - first:
        return False
    for behind, branch in enumerate(branches, start=first):
        since = wanted.cut(window, behind)
        right = is_right(branch, wanted, number)
        wanted.uncut(window, since)
        if not right:
            return False
    return True


def cases_holds(width, windows, depth, number, tree):
    """Whether tree shows that no net tells the windows within the depth with fewer than number knots."""
    if not is_between(width, 1, MOST_WIDE) or not are_windows(windows, width):
        return False
    if not is_between(depth, 0, MOST_NUMBER) or not is_between(number, 0, MOST_NUMBER) or not is_tree(tree):
        return False
    return is_right(tree, Wanted(windows, depth), number)
