"""Names, bits, values and rows."""

from loopgates.errors import InvalidRow

UNKNOWN = 2
MAX_LETTERS = 8


def is_name(value):
    """Return whether the value is a string of one to eight letters from a to z."""
    if type(value) is not str or len(value) > MAX_LETTERS:
        return False
    return value.isascii() and value.isalpha() and value.islower()


def is_integer(value):
    """Return whether the value is an integer, which True and False are not."""
    return type(value) is int


def is_bit(value):
    """Return whether the value is 0 or 1."""
    return type(value) is int and 0 <= value <= 1


def is_value(value):
    """Return whether the value is 0, 1 or 2."""
    return type(value) is int and 0 <= value <= UNKNOWN


def is_row(value):
    """Return whether the value is a tuple of values."""
    if type(value) is not tuple:
        return False
    for item in value:
        if item != UNKNOWN and (type(item) is not int or item and item != 1):
            return False
    return True


def is_bit_row(value, length):
    """Return whether the value is a tuple of so many bits."""
    if type(value) is not tuple or len(value) != length:
        return False
    for item in value:
        if type(item) is not int or item and item != 1:
            return False
    return True


def is_ascending(items):
    """Return whether each item is greater than the one before it."""
    for lesser, greater in zip(items, items[1:]):
        if not lesser < greater:
            return False
    return True


def are_lowercase(texts):
    """Return whether the strings have no other signs than letters from a to z."""
    # All of them at once: to look at one after the other takes longer.
    text = "".join(texts)
    return not text or text.isascii() and text.isalpha() and text.islower()


def is_name_tuple(value):
    """Return whether the value is an ascending tuple of names."""
    if type(value) is not tuple:
        return False
    before = ""
    for name in value:
        if type(name) is not str or len(name) > MAX_LETTERS or name <= before:
            return False
        before = name
    return are_lowercase(value)


def row_continues(row, value):
    """Return whether both are rows, and the second one has each bit of the first one."""
    if type(row) is not tuple or type(value) is not tuple or len(row) != len(value):
        return False
    for mine, other in zip(row, value):
        if mine == UNKNOWN:
            if other != UNKNOWN and (type(other) is not int or other and other != 1):
                return False
        elif mine != other or type(mine) is not int or type(other) is not int or mine and mine != 1:
            return False
    return True


def continues(row, value):
    """Return whether the value is a row that has each bit of the row."""
    if row_continues(row, value):
        return True
    if not is_row(row):
        raise InvalidRow("not a row")
    return False
