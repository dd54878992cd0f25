"""Point 0.8: names, bits, rows, and what continues a row."""

import unittest

from loopgates.base import names
from loopgates.base.names import continues, is_bit, is_name, is_row
from loopgates.errors import InvalidRow
from tests.samples import Case, all_rows, nested, odd_values


class Names(Case):
    def test_constant(self):
        self.same(names.UNKNOWN, 2)

    def test_names(self):
        for value in ("a", "z", "m", "ab", "abcdefgh", "zzzzzzzz", "or", "inputs", "self", "circuit", "lambda"):
            self.same(is_name(value), True, value)

    def test_what_is_no_name(self):
        for value in ("", "abcdefghi", "A", "aB", "Ab", "a1", "1", "a_", "_", "a b", " a", "a ", "a\n", "\n", "\u00e9",
                      "\u00df", "\u0430", "a\u00e9", "{", "`", "a{", "`a", "a-b", "0"):
            self.same(is_name(value), False, value)

    def test_other_kinds_are_no_names(self):
        for value in odd_values():
            if not isinstance(value, str):
                self.same(is_name(value), False, value)

    def test_bits(self):
        self.same([is_bit(0), is_bit(1)], [True, True])
        for value in odd_values():
            wanted = type(value) is int and value in (0, 1)
            self.same(is_bit(value), wanted, value)

    def test_rows(self):
        for length in range(5):
            for row in all_rows((0, 1, 2), length):
                self.same(is_row(row), True, row)
        self.same(is_row((0, 1, 2) * 50), True)

    def test_what_is_no_row(self):
        for value in ([], [0, 1], {}, {0: 1}, None, 0, 1, True, "", "01", (3,), (-1,), (True,), (False,), (0, True), (0, 3),
                      (2, -1, 0), ("0",), (None,), ((0,),), ([0],), ({},), (10 ** 39,), nested("tuple", 12)):
            self.same(is_row(value), False, value)

    def test_is_functions_accept_everything(self):
        for value in odd_values():
            for call in (is_name, is_bit, is_row):
                self.assertIn(call(value), (True, False))
                self.same(type(call(value)).__name__, "bool")

    def test_continues(self):
        for length in range(4):
            for row in all_rows((0, 1, 2), length):
                for value in all_rows((0, 1, 2), length):
                    wanted = all(mine == 2 or mine == other for mine, other in zip(row, value))
                    self.same(continues(row, value), wanted, (row, value))

    def test_a_row_of_another_length_does_not_continue(self):
        for row, value in (((), (0,)), ((2,), ()), ((2,), (0, 1)), ((2, 2), (0,)), ((0,), (0, 0)), ((0, 1), (0,))):
            self.same(continues(row, value), False, (row, value))

    def test_what_is_no_row_does_not_continue(self):
        for value in odd_values():
            if not is_row(value):
                for row in ((), (2,), (2, 2), (0, 1), (1,)):
                    self.same(continues(row, value), False, value)
        for value in ((True,), (False,), [0], [1], (3,), ("1",)):
            for row in ((0,), (1,), (2,)):
                self.same(continues(row, value), False, (row, value))

    def test_continues_refuses_what_is_no_row(self):
        for value in odd_values():
            if not is_row(value):
                self.refuses(InvalidRow, continues, value, (0,))
                self.refuses(InvalidRow, continues, value, value)

    def test_arguments_stay(self):
        self.same(self.pure(continues, (2, 0), (1, 0)), True)
        for value in odd_values():
            self.pure(is_row, value)
            self.pure(is_name, value)
            self.pure(is_bit, value)


if __name__ == "__main__":
    unittest.main()
