"""Which kind a value is of, where Python's own kinds say too little."""

NAME_LETTERS = "abcdefghijklmnopqrstuvwxyz"
LONGEST_NAME = 8


def is_whole(value):
    """Whether this is an int that is not a bool."""
    return isinstance(value, int) and not isinstance(value, bool)


def is_name(value):
    """Whether this is a string of 1 to 8 letters a to z."""
    if not isinstance(value, str) or not 1 <= len(value) <= LONGEST_NAME:
        return False
    return all([letter in NAME_LETTERS for letter in value])


def is_row(value, many):
    """Whether this is a tuple of so many."""
    return isinstance(value, tuple) and len(value) == many


def is_told(value, row):
    """Whether this is just this tuple of strings."""
    return isinstance(value, tuple) and value == row
