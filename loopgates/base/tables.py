"""Tables of functions of zero to four wires."""

from loopgates.base.names import UNKNOWN, is_bit, is_row
from loopgates.base.rows import ternary_row
from loopgates.errors import InvalidNumber, InvalidRow, InvalidTable, UnknownName

MAX_WIRES = 4
TABLE_SIZES = {1: 0, 2: 1, 4: 2, 8: 3, 16: 4}
# The number of wires for which `None` stands.
USUAL_WIRES = {
    "and": 2, "or": 2, "xor": 2, "nand": 2, "nor": 2, "same": 2,
    "not": 1, "buffer": 1, "zero": 0, "one": 0, "choose": 3,
}
WORD_TABLES = {
    ("and", 2): (0, 0, 0, 1),
    ("and", 3): (0, 0, 0, 0, 0, 0, 0, 1),
    ("and", 4): (0, 0, 0, 0, 0, 0, 0, 0, 0, 0, 0, 0, 0, 0, 0, 1),
    ("or", 2): (0, 1, 1, 1),
    ("or", 3): (0, 1, 1, 1, 1, 1, 1, 1),
    ("or", 4): (0, 1, 1, 1, 1, 1, 1, 1, 1, 1, 1, 1, 1, 1, 1, 1),
    ("xor", 2): (0, 1, 1, 0),
    ("xor", 3): (0, 1, 1, 0, 1, 0, 0, 1),
    ("xor", 4): (0, 1, 1, 0, 1, 0, 0, 1, 1, 0, 0, 1, 0, 1, 1, 0),
    ("nand", 2): (1, 1, 1, 0),
    ("nand", 3): (1, 1, 1, 1, 1, 1, 1, 0),
    ("nand", 4): (1, 1, 1, 1, 1, 1, 1, 1, 1, 1, 1, 1, 1, 1, 1, 0),
    ("nor", 2): (1, 0, 0, 0),
    ("nor", 3): (1, 0, 0, 0, 0, 0, 0, 0),
    ("nor", 4): (1, 0, 0, 0, 0, 0, 0, 0, 0, 0, 0, 0, 0, 0, 0, 0),
    ("same", 2): (1, 0, 0, 1),
    ("same", 3): (1, 0, 0, 1, 0, 1, 1, 0),
    ("same", 4): (1, 0, 0, 1, 0, 1, 1, 0, 0, 1, 1, 0, 1, 0, 0, 1),
    ("not", 1): (1, 0),
    ("buffer", 1): (0, 1),
    ("zero", 0): (0,),
    ("one", 0): (1,),
    ("choose", 3): (0, 0, 1, 1, 0, 1, 0, 1),
}


def is_table(value):
    """Return whether the value is a table."""
    if type(value) is not tuple or len(value) not in TABLE_SIZES:
        return False
    for bit in value:
        if type(bit) is not int or bit and bit != 1:
            return False
    return True


def require_table(table):
    """Raise InvalidTable if it is not a table."""
    if not is_table(table):
        raise InvalidTable("not a tuple of 1, 2, 4, 8 or 16 bits")


def count_wires(table):
    """Return the number of wires of what is known to be a table."""
    return TABLE_SIZES[len(table)]


def result_at(table, bits):
    """Return the result for a row of bits."""
    at = 0
    for bit in bits:
        at = at + at + bit
    return table[at]


def forced_bit(table, row):
    """Return the bit that a row of values forces, or 2."""
    if UNKNOWN not in row:
        return result_at(table, row)
    # The table is cut to the results that are still possible; it consists of blocks, one for
    # each choice of bits for the unknown wires so far.
    size = len(table)
    for value in row:
        whole = size
        size = size >> 1
        if value == UNKNOWN:
            continue
        if size == 1:
            table = table[value::2]
        elif len(table) == whole:
            table = table[size:] if value else table[:size]
        else:
            table = [bit for at in range(value * size, len(table), whole) for bit in table[at:at + size]]
    if 0 not in table:
        return 1
    return UNKNOWN if 1 in table else 0


def wires_of(table):
    """Return the number of wires."""
    require_table(table)
    return count_wires(table)


def value_at(table, row):
    """Return the bit that the row forces, or 2."""
    if not is_table(table):
        raise InvalidTable("not a tuple of 1, 2, 4, 8 or 16 bits")
    if not is_row(row) or len(row) != TABLE_SIZES[len(table)]:
        raise InvalidRow("not a row with a value for each wire")
    return forced_bit(table, row)


def used_wires(table):
    """Return the ascending tuple of the wires on which the function depends."""
    require_table(table)
    used = []
    for wire in range(count_wires(table)):
        if held_table(table, wire, 0) != held_table(table, wire, 1):
            used.append(wire)
    return tuple(used)


def all_values_at(table):
    """Return the list of the values that all rows of values force, in the order of the rows."""
    values = list(table)
    # From the last wire on, a third block behind each two says what they have in common.
    size = 1
    while size < len(values):
        wider = []
        for at in range(0, len(values), 2 * size):
            low = values[at:at + size]
            high = values[at + size:at + 2 * size]
            wider.extend(low + high + [a if a == b else UNKNOWN for a, b in zip(low, high)])
        values = wider
        size = 3 * size
    return values


def primes_of(table, bit):
    """Return the list of the prime rows of what is known to be a table, ascending."""
    wires = count_wires(table)
    values = all_values_at(table)
    weights = (27, 9, 3, 1)[MAX_WIRES - wires:]
    rows = []
    for at, value in enumerate(values):
        if value == bit:
            row = ternary_row(at, wires)
            # To leave out one bit is enough: with even fewer bits a row forces no more.
            wider = [at + (UNKNOWN - item) * weight for item, weight in zip(row, weights) if item != UNKNOWN]
            if bit not in [values[other] for other in wider]:
                rows.append(row)
    return rows


def prime_rows(table, bit):
    """Return the ascending tuple of the least rows that force the bit."""
    require_table(table)
    if not is_bit(bit):
        raise InvalidNumber(bit)
    return tuple(primes_of(table, bit))


def is_word(value):
    """Return whether the value is a word for tables."""
    return type(value) is str and value in USUAL_WIRES


def has_word_table(word, wires):
    """Return whether the word has a table with so many wires."""
    return (word, wires) in WORD_TABLES


def built_table(word, wires):
    """Return the table of a word with a number of wires that it has."""
    return WORD_TABLES[(word, wires)]


def word_table(word, *, wires=None):
    """Return the table of a word."""
    if not is_word(word):
        raise UnknownName(word)
    many = USUAL_WIRES[word] if wires is None else wires
    if type(many) is not int or not has_word_table(word, many):
        raise InvalidNumber(wires)
    return WORD_TABLES[(word, many)]


def table_word(table):
    """Return the word that has this table, or None."""
    require_table(table)
    for (word, _), known in WORD_TABLES.items():
        if known == table:
            return word
    return None


def is_wire(value, wires):
    """Return whether the value is one of so many wires."""
    return type(value) is int and 0 <= value < wires


def held_table(table, wire, bit):
    """Return the table with a wire held at a bit and left out."""
    size = len(table)
    block = size >> (wire + 1)
    if block == 1:
        return table[bit::2]
    return tuple([result for at in range(bit * block, size, 2 * block) for result in table[at:at + block]])


def flipped_table(table):
    """Return the table of the negated function."""
    return tuple([1 - bit for bit in table])


def fixed(table, wire, bit):
    """Return the table with a wire held at a bit, which is then left out."""
    require_table(table)
    if not is_wire(wire, TABLE_SIZES[len(table)]):
        raise InvalidNumber(wire)
    if not is_bit(bit):
        raise InvalidNumber(bit)
    return held_table(table, wire, bit)


def joined(table, first, second):
    """Return the table with two wires that have the same bit, without the second one."""
    require_table(table)
    wires = TABLE_SIZES[len(table)]
    if not is_wire(first, wires):
        raise InvalidNumber(first)
    if not is_wire(second, wires) or second == first:
        raise InvalidNumber(second)
    # Without the second wire, the first one may stand one place further left.
    place = wires - 1 - (first if second < first else first + 1)
    gap = wires - 1 - second
    rows = range(len(table) >> 1)
    # In the number of each row without the second wire, the bit of the first one is put in.
    return tuple([table[row + ((row >> gap) + (row >> place & 1) << gap)] for row in rows])


def negated(table):
    """Return the table of the negated function."""
    require_table(table)
    return flipped_table(table)
