"""Rows of values, in order, and their numbers."""

VALUES = (0, 1, 2)


def rows_over(choices):
    """Return the list of all rows with one item of each of the choices, in their order."""
    rows = [()]
    for items in choices:
        rows = [row + (item,) for row in rows for item in items]
    return rows


def ternary_row(number, length):
    """Return the row of so many values that are the ternary digits of the number."""
    row = ()
    for _ in range(length):
        row = (number % 3,) + row
        number = number // 3
    return row
