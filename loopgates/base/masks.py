"""Sets of rows as numbers: masks, in which each binary digit stands for a row."""

# For each number of wires, and each wire, the masks of a table where the wire is 0 and where it is 1.
WIRE_MASKS = (
    (),
    ((2, 1),),
    ((12, 3), (10, 5)),
    ((240, 15), (204, 51), (170, 85)),
    ((65280, 255), (61680, 3855), (52428, 13107), (43690, 21845)),
)
# So many rows are taken out one by one.
FEW = 4


def table_number(table):
    """Return the number whose binary digits are the bits of a table, the first one first."""
    number = 0
    for bit in table:
        number = number + number + bit
    return number


def repeated(mask, size, many):
    """Return a mask of so many rows, so many times behind one another."""
    longer = mask
    for time in range(1, many):
        longer = longer | mask << time * size
    return longer


def row_masks(many, choices):
    """Return the masks of all rows of so many items, each of which is one of the first 2 or 3 values.

    The result is a pair: for each item the masks of the rows where it is 0
    and where it is 1, and the mask of all rows. Digit k stands for row k.
    """
    pairs = []
    size = 1
    for _ in range(many):
        first = (1 << size) - 1
        further = [(repeated(low, size, choices), repeated(high, size, choices)) for low, high in pairs]
        pairs = [(first, first << size)] + further
        size = size * choices
    return pairs, (1 << size) - 1


def forced_masks(table, pairs, full):
    """Return the masks of the rows that force 0 and that force 1, for the masks of the wires where they are 0 and 1."""
    zeros = [0 if bit else full for bit in table]
    ones = [full if bit else 0 for bit in table]
    # From the last wire on, the results for each two rows of the other wires become one.
    for low, high in pairs[::-1]:
        zeros = [a if a == b else low & a | high & b | a & b for a, b in zip(zeros[::2], zeros[1::2])]
        ones = [a if a == b else low & a | high & b | a & b for a, b in zip(ones[::2], ones[1::2])]
    return zeros[0], ones[0]


def ones_mask(table, sources, masks, full):
    """Return the mask of the rows of bits with the result 1; `masks` has the masks where a source is 0 and where 1."""
    if not sources:
        return full if table[0] else 0
    low, high = masks[sources[-1]]
    choices = (0, high, low, full)
    if len(sources) == 1:
        return choices[table[0] + table[0] + table[1]]
    if len(sources) == 2:
        ones = (choices[table[0] + table[0] + table[1]], choices[table[2] + table[2] + table[3]])
    else:
        ones = [choices[first + first + second] for first, second in zip(table[::2], table[1::2])]
        for source in sources[-2:0:-1]:
            low, high = masks[source]
            ones = [low & first | high & second for first, second in zip(ones[::2], ones[1::2])]
    low, high = masks[sources[0]]
    return low & ones[0] | high & ones[1]


def numbers_in(mask):
    """Return the ascending list of the rows that are in a mask."""
    digits = f"{mask:b}"[::-1]
    found = []
    at = digits.find("1")
    while at >= 0:
        found.append(at)
        at = digits.find("1", at + 1)
    return found


def numbers_of(mask):
    """Return the ascending list of the rows that are in a mask, of which there are mostly few."""
    found = []
    while mask and len(found) < FEW:
        unit = mask & -mask
        found.append(unit.bit_length() - 1)
        mask = mask ^ unit
    return found + numbers_in(mask) if mask else found


def first_in(mask):
    """Return the first row that is in a mask, which is not 0."""
    return (mask & -mask).bit_length() - 1


def count_in(mask):
    """Return the number of rows that are in a mask."""
    return f"{mask:b}".count("1")
