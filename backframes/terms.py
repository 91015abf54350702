"""Terms: values that are not known yet."""

from backframes.errors import InvalidArgument, InvalidNumber
from backframes.plain import is_integer, is_kind
from backframes.termforms import (
    NumberTerm, ObjectTerm, added, atoms_in, comes_ahead, is_term, is_too_great, key_of, multiplied, number_atom,
    primitive_of, rank_of,
)
from backframes.values import OPERATIONS


class Terms:
    """Terms over the same atoms."""

    def __init__(self):
        self._atoms = []
        self._numbers = {}
        # For each atom the atoms in its parts, as these are asked for again and again.
        self._within = []

    def constant(self, n):
        """The term of an integer."""
        if not is_integer(n):
            raise InvalidNumber(n)
        return NumberTerm(n, ())

    def nil(self):
        """The term of nil."""
        return ObjectTerm(None)

    def unknown(self, name, kind):
        """The term of a value of which only the name is known."""
        if not isinstance(name, str):
            raise InvalidArgument("name")
        if not is_kind(kind):
            raise InvalidArgument("kind")
        return self.of_atom(("unknown", kind, name), kind)

    def asked(self, word, kind, parts):
        """The term of what is told by a word and by terms, strings and integers."""
        return self.of_atom(("asked", kind, word, *parts), kind)

    def of_atom(self, told, kind):
        """The term of an atom, which comes up now if it is new."""
        key = tuple([key_of(part) for part in told])
        if key not in self._numbers:
            self._numbers[key] = len(self._atoms)
            self._atoms.append(told)
            self._within.append(tuple([atom for part in told if is_term(part) for atom in atoms_in(part)]))
        number = self._numbers[key]
        return ObjectTerm(number) if kind == "object" else number_atom(number)

    def made(self, op, one, other):
        """The number term of an operation on two terms."""
        if not isinstance(op, str) or op not in OPERATIONS:
            raise InvalidArgument("op")
        if op == "add":
            return added(one, other, 1)
        if op == "sub":
            return added(one, other, -1)
        if op == "times":
            return self._times(one, other)
        if op == "less":
            return self._above_0(added(other, one, -1))
        return self._same(one, other)

    def _times(self, one, other):
        product = multiplied(one, other)
        if not is_too_great(product):
            return product
        first, second = (other, one) if rank_of(other) < rank_of(one) else (one, other)
        return self.of_atom(("times", first, second), "number")

    def _above_0(self, term):
        """1 if a term is above 0, otherwise 0."""
        if len(term.pieces) == 0:
            return NumberTerm(1 if term.integer > 0 else 0, ())
        factor, primitive = primitive_of(term)
        if factor > 0:
            return self.of_atom(("above", primitive, -term.integer // factor), "number")
        # g * s + c is above 0 just if s is less than c / -g, so not above the greatest integer below that.
        at_most = -(-term.integer // -factor) - 1
        return added(NumberTerm(1, ()), self.of_atom(("above", primitive, at_most), "number"), -1)

    def _same(self, one, other):
        """1 if two terms are the same, otherwise 0."""
        if one == other:
            return NumberTerm(1, ())
        if isinstance(one, NumberTerm):
            return self._equal_0(added(one, other, -1))
        first, second = (other, one) if comes_ahead(other, one) else (one, other)
        return self.of_atom(("alike", first, second), "number")

    def _equal_0(self, term):
        if len(term.pieces) == 0:
            return NumberTerm(0, ())
        factor, primitive = primitive_of(term)
        if term.integer % factor != 0:
            return NumberTerm(0, ())
        return self.of_atom(("equal", primitive, -term.integer // factor), "number")

    def kind(self, term):
        """The kind of a term."""
        return "number" if isinstance(term, NumberTerm) else "object"

    def parts(self, term):
        """The integer and the parts of a number term; the atom of an object term, None of nil."""
        if isinstance(term, ObjectTerm):
            return term.number
        return (term.integer, [(factor, list(atoms)) for factor, atoms in term.pieces])

    def atom(self, number):
        """The tuple of an atom."""
        if not is_integer(number) or not 0 <= number < len(self._atoms):
            raise InvalidNumber(number)
        return self._atoms[number]

    def atoms_within(self, number):
        """The tuple of the atoms in the parts of an atom, without those within these."""
        return self._within[number]

    def many_atoms(self):
        """How many atoms have come up."""
        return len(self._atoms)
