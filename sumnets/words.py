"""Words of texts and rows: which are numbers, which are names."""

DIGITS = "0123456789"
LETTERS = "abcdefghijklmnopqrstuvwxyz"
MOST_DIGITS = 9
MOST_LETTERS = 8


def is_made_of(word, signs, most):
    """Whether word is one to most of these signs."""
    return 1 <= len(word) <= most and all(sign in signs for sign in word)


def is_number(word):
    """Whether word is digits, the first of several no 0."""
    # Python's own isdigit lets other digits than these ten by, and int reads more than the document calls a number.
    return is_made_of(word, DIGITS, MOST_DIGITS) and (word == "0" or word[0] != "0")


def is_signed_number(word):
    """Whether word is a number, perhaps with a - ahead, but not of 0."""
    return is_number(word) or (word[:1] == "-" and word != "-0" and is_number(word[1:]))


def is_name(word):
    """Whether word is one to eight letters."""
    return is_made_of(word, LETTERS, MOST_LETTERS)
