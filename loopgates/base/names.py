"""Names, bits, values and rows."""

from loopgates.errors import InvalidRow

UNKNOWN = 2
MAX_LETTERS = 8


def is_name(value):
    """Return whether the value is a string of one to eight letters from a to z."""
    if not isinstance(value, str) or not 1 <= len(value) <= MAX_LETTERS:
        return False
    for letter in value:
        if not "a" <= letter <= "z":
            return False
    return True


def is_integer(value):
    """Return whether the value is an integer, which True and False are not."""
    return isinstance(value, int) and not isinstance(value, bool)


def is_bit(value):
    """Return whether the value is 0 or 1."""
    return is_integer(value) and 0 <= value <= 1


def is_row(value):
    """Return whether the value is a tuple of values."""
    return isinstance(value, tuple) and are_up_to(value, UNKNOWN)


def is_bit_row(value, length):
    """Return whether the value is a tuple of so many bits."""
    return isinstance(value, tuple) and len(value) == length and are_up_to(value, 1)


def are_up_to(items, most):
    """Return whether all items are integers from 0 to `most`."""
    # No call for each item: circuits of the greatest size have thousands of them.
    for item in items:
        if not isinstance(item, int) or isinstance(item, bool) or not 0 <= item <= most:
            return False
    return True


def is_ascending(items):
    """Return whether each item is greater than the one before it."""
    for lesser, greater in zip(items, items[1:]):
        if not lesser < greater:
            return False
    return True


def is_name_tuple(value):
    """Return whether the value is an ascending tuple of names."""
    if not isinstance(value, tuple):
        return False
    for name in value:
        if not is_name(name):
            return False
    return is_ascending(value)


def continues(row, value):
    """Return whether the value is a row that has each bit of the row."""
    if not is_row(row):
        raise InvalidRow("not a row")
    if not is_row(value) or len(value) != len(row):
        return False
    for mine, other in zip(row, value):
        if mine not in (UNKNOWN, other):
            return False
    return True
