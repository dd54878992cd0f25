"""Tables of functions of zero to four wires."""

from loopgates.base.names import UNKNOWN, are_up_to, is_bit, is_integer, is_row
from loopgates.base.rows import BITS, VALUES, position_of, rows_over
from loopgates.errors import InvalidNumber, InvalidRow, InvalidTable, UnknownName

MAX_WIRES = 4
TABLE_SIZES = (1, 2, 4, 8, 16)
# The bits that a wire with the value 0, 1 or 2 may have.
CHOICES = ((0,), (1,), (0, 1))


def is_table(value):
    """Return whether the value is a table."""
    return isinstance(value, tuple) and len(value) in TABLE_SIZES and are_up_to(value, 1)


def require_table(table):
    """Raise InvalidTable if it is not a table."""
    if not is_table(table):
        raise InvalidTable("not a tuple of 1, 2, 4, 8 or 16 bits")


def count_wires(table):
    """Return the number of wires of what is known to be a table."""
    return len(table).bit_length() - 1


def forced_bit(table, row):
    """Return the bit that a row of values forces, or 2."""
    positions = [0]
    for value in row:
        positions = [2 * position + bit for position in positions for bit in CHOICES[value]]
    results = [table[position] for position in positions]
    if 0 not in results:
        return 1
    if 1 not in results:
        return 0
    return UNKNOWN


def wires_of(table):
    """Return the number of wires."""
    require_table(table)
    return count_wires(table)


def value_at(table, row):
    """Return the bit that the row forces, or 2."""
    require_table(table)
    if not is_row(row) or len(row) != count_wires(table):
        raise InvalidRow("not a row with a value for each wire")
    return forced_bit(table, row)


def used_wires(table):
    """Return the ascending tuple of the wires on which the function depends."""
    require_table(table)
    wires = range(count_wires(table))
    return tuple([wire for wire in wires if held_table(table, wire, 0) != held_table(table, wire, 1)])


def prime_rows(table, bit):
    """Return the ascending tuple of the least rows that force the bit."""
    require_table(table)
    if not is_bit(bit):
        raise InvalidNumber(bit)
    rows = rows_over([VALUES] * count_wires(table))
    return tuple([row for row in rows if is_prime(table, row, bit)])


def is_prime(table, row, bit):
    """Return whether the row, but no row with fewer of its bits, forces the bit."""
    if forced_bit(table, row) != bit:
        return False
    # To leave out one bit is enough: with even fewer bits a row forces no more.
    for wire, value in enumerate(row):
        if value != UNKNOWN and forced_bit(table, row[:wire] + (UNKNOWN,) + row[wire + 1:]) == bit:
            return False
    return True


def all_ones(bits):
    """Return 1 if there is no 0."""
    return 0 if 0 in bits else 1


def some_one(bits):
    """Return 1 if there is a 1."""
    return 1 if 1 in bits else 0


def odd_ones(bits):
    """Return 1 if the number of ones is odd."""
    return sum(bits) & 1


def chosen_bit(bits):
    """Return the second bit if the first one is 0, otherwise the third one."""
    return bits[1 + bits[0]]


WORD_WIRES = {
    "and": (2, 3, 4),
    "or": (2, 3, 4),
    "xor": (2, 3, 4),
    "nand": (2, 3, 4),
    "nor": (2, 3, 4),
    "same": (2, 3, 4),
    "not": (1,),
    "buffer": (1,),
    "zero": (0,),
    "one": (0,),
    "choose": (3,),
}
RULES = {
    "and": all_ones,
    "or": some_one,
    "xor": odd_ones,
    "buffer": all_ones,
    "one": all_ones,
    "choose": chosen_bit,
}
NEGATED_WORDS = {"nand": "and", "nor": "or", "same": "xor", "not": "buffer", "zero": "one"}


def is_word(value):
    """Return whether the value is a word for tables."""
    return isinstance(value, str) and value in WORD_WIRES


def has_word_table(word, wires):
    """Return whether the word has a table with so many wires."""
    return wires in WORD_WIRES[word]


def built_table(word, wires):
    """Return the table of a word with a number of wires that it has."""
    if word in NEGATED_WORDS:
        return flipped_table(built_table(NEGATED_WORDS[word], wires))
    rule = RULES[word]
    return tuple([rule(bits) for bits in rows_over([BITS] * wires)])


def word_table(word, *, wires=None):
    """Return the table of a word."""
    if not is_word(word):
        raise UnknownName(word)
    many = WORD_WIRES[word][0] if wires is None else wires
    if not is_integer(many) or not has_word_table(word, many):
        raise InvalidNumber(wires)
    return built_table(word, many)


def table_word(table):
    """Return the word that has this table, or None."""
    require_table(table)
    wires = count_wires(table)
    for word in WORD_WIRES:
        if has_word_table(word, wires) and built_table(word, wires) == table:
            return word
    return None


def require_wire(table, wire):
    """Raise InvalidNumber if it is not a wire of the table."""
    if not is_integer(wire) or not 0 <= wire < count_wires(table):
        raise InvalidNumber(wire)


def held_table(table, wire, bit):
    """Return the table with a wire held at a bit and left out."""
    rows = rows_over([BITS] * (count_wires(table) - 1))
    return tuple([table[position_of(row[:wire] + (bit,) + row[wire:])] for row in rows])


def flipped_table(table):
    """Return the table of the negated function."""
    return tuple([1 - bit for bit in table])


def fixed(table, wire, bit):
    """Return the table with a wire held at a bit, which is then left out."""
    require_table(table)
    require_wire(table, wire)
    if not is_bit(bit):
        raise InvalidNumber(bit)
    return held_table(table, wire, bit)


def joined(table, first, second):
    """Return the table with two wires that have the same bit, without the second one."""
    require_table(table)
    require_wire(table, first)
    require_wire(table, second)
    if second == first:
        raise InvalidNumber(second)
    # Without the second wire, the first one may stand one place further left.
    place = first - 1 if second < first else first
    rows = rows_over([BITS] * (count_wires(table) - 1))
    return tuple([table[position_of(row[:second] + (row[place],) + row[second:])] for row in rows])


def negated(table):
    """Return the table of the negated function."""
    require_table(table)
    return flipped_table(table)
