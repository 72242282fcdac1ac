"""What is asked of plain values, before a ground gives them a meaning."""


def is_whole(value):
    """Whether a value is an integer; True and False are none here, though Python takes them for some."""
    return isinstance(value, int) and not isinstance(value, bool)


def is_between(value, low, high):
    """Whether a value is an integer from low to high."""
    return is_whole(value) and low <= value <= high


def is_tuple_of(value, many):
    """Whether a value is a tuple of so many things."""
    return isinstance(value, tuple) and len(value) == many


def are_between(value, many, low, high):
    """Whether a value is a tuple of so many integers from low to high."""
    return is_tuple_of(value, many) and all([is_between(item, low, high) for item in value])


def is_rising(row):
    """Whether each item of a tuple is greater than the one ahead of it."""
    return all([one < other for one, other in zip(row, row[1:])])


def is_lot_below(value, many):
    """Whether a value is an ascending tuple of unlike integers from 0, each less than many."""
    if not isinstance(value, tuple):
        return False
    return all([is_between(item, 0, many - 1) for item in value]) and is_rising(value)
