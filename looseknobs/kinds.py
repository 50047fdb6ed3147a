"""Which kind a value is of, where Python's own kinds say too little."""


def is_whole(value):
    """Whether this is an int that is not a bool."""
    return isinstance(value, int) and not isinstance(value, bool)
