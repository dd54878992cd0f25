"""Formulas: Boolean functions of names."""

from loopgates.base.masks import count_in, first_in, forced_masks, numbers_in, row_masks
from loopgates.base.names import is_bit, is_name, is_name_tuple
from loopgates.base.tables import count_wires, require_table
from loopgates.errors import InvalidFormula, InvalidNumber, InvalidSetting, TooMany
from loopgates.formulas.diagrams import diagram_nodes, diagram_text
from loopgates.formulas.truth import both, held_at, implied, one_of, opposite, reduced, spread, without

MAX_NAMES = 12


def are_all_names(values):
    """Return whether all values are names."""
    for value in values:
        if not is_name(value):
            return False
    return True


def require_names(values):
    """Raise InvalidFormula if one of the values is not a name."""
    if not are_all_names(values):
        raise InvalidFormula("not a name")


def is_setting_of(names, value):
    """Return whether the value is a dict from names to bits that has these names."""
    if type(value) is not dict or not are_all_names(value):
        return False
    for name in value:
        if not is_bit(value[name]):
            return False
    return not [name for name in names if name not in value]


def row_bits(names, number):
    """Return a dict from the names to the bits of the row with this number."""
    last = len(names) - 1
    return {name: number >> (last - at) & 1 for at, name in enumerate(names)}


class Formula:
    """A Boolean function of the names on which it depends; it never changes."""

    def __init__(self, names, mask):
        self._names = names
        self._mask = mask

    @classmethod
    def variable(cls, name):
        """Return the formula of a name."""
        if not is_name(name):
            raise InvalidFormula("not a name")
        return cls((name,), 2)

    @classmethod
    def bit(cls, bit):
        """Return the formula that always has this bit."""
        if not is_bit(bit):
            raise InvalidNumber(bit)
        return cls((), bit)

    @classmethod
    def of_table(cls, names, table):
        """Return the formula of a table with a name for each wire."""
        if type(names) is not tuple or not are_all_names(names):
            raise InvalidFormula("not a tuple of names")
        require_table(table)
        if len(names) != count_wires(table):
            raise InvalidFormula("not a name for each wire")
        different = tuple(sorted(set(names)))
        pairs, full = row_masks(len(different), 2)
        mask = forced_masks(table, [pairs[different.index(name)] for name in names], full)[1]
        kept, mask = reduced(different, mask)
        return cls(kept, mask)

    @property
    def names(self):
        """The ascending tuple of the names."""
        return self._names

    def __and__(self, other):
        if not isinstance(other, Formula):
            raise InvalidFormula("not a formula")
        names, mask = both((self._names, self._mask), (other._names, other._mask))
        return Formula(names, mask)

    def __or__(self, other):
        if not isinstance(other, Formula):
            raise InvalidFormula("not a formula")
        neither = both(opposite((self._names, self._mask)), opposite((other._names, other._mask)))
        names, mask = opposite(neither)
        return Formula(names, mask)

    def __xor__(self, other):
        if not isinstance(other, Formula):
            raise InvalidFormula("not a formula")
        names, mask = one_of((self._names, self._mask), (other._names, other._mask))
        return Formula(names, mask)

    def __invert__(self):
        names, mask = opposite((self._names, self._mask))
        return Formula(names, mask)

    def __eq__(self, other):
        return isinstance(other, Formula) and self._names == other._names and self._mask == other._mask

    def __len__(self):
        return len(diagram_nodes(len(self._names), self._mask))

    def __bool__(self):
        return bool(self._mask)

    def __str__(self):
        return str(diagram_text(self._names, self._mask))

    def __call__(self, setting):
        """Return the bit at a setting that has at least the names."""
        if not is_setting_of(self._names, setting):
            raise InvalidSetting("not a dict from names to bits with all names of the formula")
        number = 0
        for name in self._names:
            number += number + setting[name]
        return self._mask >> number & 1

    def implies(self, other):
        """Return whether another formula is 1 wherever this one is."""
        if not isinstance(other, Formula):
            raise InvalidFormula("not a formula")
        return implied((self._names, self._mask), (other._names, other._mask))

    def total(self, names):
        """Return at how many settings of the names the function is 1."""
        self._check(names)
        return count_in(self._mask) << (len(names) - len(self._names))

    def settings(self, names):
        """Yield the settings of the names at which the function is 1, ascending."""
        self._check(names)
        for number in numbers_in(spread(self._names, self._mask, names)):
            yield row_bits(names, number)

    def first(self, names):
        """Return the first setting of the names at which the function is 1, or None."""
        self._check(names)
        if not self._mask:
            return None
        return row_bits(names, first_in(spread(self._names, self._mask, names)))

    def restricted(self, **bits):
        """Return the formula with some names at bits."""
        return self.restricted_by(bits)

    def restricted_by(self, bits):
        """Return the formula with the names of a dict at its bits."""
        if not is_setting_of((), bits):
            raise InvalidFormula("not a dict from names to bits")
        names, mask = held_at((self._names, self._mask), bits)
        return Formula(names, mask)

    def some(self, *names):
        """Return the formula that is 1 if the function is 1 for some bits of these names."""
        require_names(names)
        kept, mask = without((self._names, self._mask), names, False)
        return Formula(kept, mask)

    def every(self, *names):
        """Return the formula that is 1 if the function is 1 for all bits of these names."""
        require_names(names)
        kept, mask = without((self._names, self._mask), names, True)
        return Formula(kept, mask)

    def _check(self, names):
        """Raise the errors for what is no ascending tuple of at most twelve names with those of the formula."""
        if not is_name_tuple(names) or [name for name in self._names if name not in names]:
            raise InvalidFormula("not an ascending tuple of names with all names of the formula")
        if len(names) > MAX_NAMES:
            raise TooMany(MAX_NAMES)
