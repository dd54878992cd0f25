"""Points 0.17 and 0.18."""

import unittest

from loopgates import errors
from tests.samples import Case

MESSAGE_ERRORS = (
    "InvalidTable", "InvalidRow", "InvalidCircuit", "InvalidSetting", "InvalidState", "InvalidStep",
    "InvalidValues", "InvalidFormula", "InvalidModule", "InvalidBehaviour", "InvalidNet", "InvalidMachine",
    "InvalidOperation", "InvalidEdit", "ParseError", "InvalidCommand")
VALUE_ERRORS = {
    "InvalidNumber": (IndexError, "value"),
    "UnknownName": (KeyError, "name"),
    "Conflict": (RuntimeError, "name"),
    "TooMany": (OverflowError, "limit"),
    "Flipping": (ArithmeticError, "paper"),
    "NothingToUndo": (LookupError, "many"),
}


class Errors(Case):
    def test_circuit_error(self):
        self.assertEqual(errors.CircuitError.__bases__, (ValueError,))
        self.same(str(errors.CircuitError("a message")), "a message")

    def test_errors_with_a_message(self):
        for name in MESSAGE_ERRORS:
            kind = getattr(errors, name)
            self.assertEqual(kind.__bases__, (errors.CircuitError,), name)
            self.assertEqual(kind.__name__, name)
            self.same(str(kind("what is wrong")), "what is wrong")
            self.same(str(kind("")), "")

    def test_errors_with_a_value(self):
        for name, (base, attribute) in VALUE_ERRORS.items():
            kind = getattr(errors, name)
            self.assertEqual(kind.__bases__, (base,), name)
            self.assertEqual(kind.__name__, name)
            self.assertFalse(issubclass(kind, errors.CircuitError), name)
            for value in (0, True, None, "a", "", (1, [2]), [], {"a": 1}):
                self.assertIs(getattr(kind(value), attribute), value)

    def test_no_error_is_derived_from_another_one(self):
        kinds = [getattr(errors, name) for name in (*MESSAGE_ERRORS, *VALUE_ERRORS)]
        self.assertEqual(len(set(kinds)), 22)
        for first in kinds:
            for second in kinds:
                self.assertEqual(issubclass(first, second), first is second)

    def test_errors_with_a_value_take_one(self):
        for name in VALUE_ERRORS:
            with self.assertRaises(TypeError):
                getattr(errors, name)()


if __name__ == "__main__":
    unittest.main()
