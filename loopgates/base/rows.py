"""Rows of bits and rows of values, in order."""

BITS = (0, 1)
VALUES = (0, 1, 2)


def rows_over(choices):
    """Return the list of all rows with one item of each of the choices, in their order."""
    rows = [()]
    for items in choices:
        rows = [row + (item,) for row in rows for item in items]
    return rows


def position_of(bits):
    """Return the number whose binary digits are the bits, the first one first."""
    position = 0
    for bit in bits:
        position = 2 * position + bit
    return position
