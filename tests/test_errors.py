import unittest

from backframes import errors
from backframes.errors import (
    CodeError, InvalidArgument, InvalidCode, InvalidNumber, InvalidSource, InvalidState, InvalidText, LimitExceeded,
)
from tests.samples import odd_things

ATTRIBUTES = {
    InvalidSource: ("part", "at"),
    InvalidCode: ("part", "at"),
    InvalidText: ("line",),
    InvalidState: ("part",),
    InvalidArgument: ("part",),
    InvalidNumber: ("number",),
    LimitExceeded: ("limit",),
}


class TestErrors(unittest.TestCase):
    def test_they_derive_directly(self):
        self.assertEqual(CodeError.__bases__, (ArithmeticError,))
        for error in ATTRIBUTES:
            self.assertEqual(error.__bases__, (CodeError,), error)

    def test_there_are_no_others(self):
        known = {error.__name__ for error in ATTRIBUTES} | {"CodeError"}
        self.assertEqual({name for name in vars(errors) if isinstance(vars(errors)[name], type)}, known)

    def test_they_are_made_from_their_attributes_by_place(self):
        for error, names in ATTRIBUTES.items():
            made = error(*[f"the {name}" for name in names])
            for name in names:
                self.assertEqual(getattr(made, name), f"the {name}")

    def test_they_are_made_from_their_attributes_by_name(self):
        for error, names in ATTRIBUTES.items():
            made = error(**{name: f"the {name}" for name in reversed(names)})
            for name in names:
                self.assertEqual(getattr(made, name), f"the {name}")

    def test_they_hold_attributes_of_any_kind(self):
        for thing in odd_things():
            self.assertIs(InvalidNumber(thing).number, thing)
            self.assertIs(InvalidSource(thing, thing).at, thing)

    def test_they_take_neither_more_nor_less(self):
        for error, names in ATTRIBUTES.items():
            with self.assertRaises(TypeError):
                error(*range(len(names) + 1))
            with self.assertRaises(TypeError):
                error(*range(len(names) - 1))


if __name__ == "__main__":
    unittest.main()
