"""Terms: values that are not known yet."""

from math import gcd

from backframes.errors import InvalidArgument, InvalidNumber
from backframes.plain import is_integer, is_kind
from backframes.values import OPERATIONS

MOST_PARTS = 40
GREATEST_POWER = 20
TOO_GREAT = 10 ** 60


class NumberTerm:
    """An integer and a sum of parts.

    The pieces are the tuple of the parts, tuples (factor, atoms) in the order of their atoms: ascending
    tuples of tuples (atom, power).
    """

    def __init__(self, integer, pieces):
        self.integer = integer
        self.pieces = pieces

    def __eq__(self, other):
        return isinstance(other, NumberTerm) and self.integer == other.integer and self.pieces == other.pieces


class ObjectTerm:
    """An atom that is an object, told by its number; or nil, whose number is None."""

    def __init__(self, number):
        self.number = number

    def __eq__(self, other):
        return isinstance(other, ObjectTerm) and self.number == other.number


class Terms:
    """Terms over the same atoms."""

    def __init__(self):
        self._atoms = []
        self._numbers = {}

    def constant(self, n):
        """The term of an integer."""
        if not is_integer(n):
            raise InvalidNumber(n)
        return NumberTerm(n, ())

    def nil(self):
        """The term of nil."""
        return ObjectTerm(None)

    def unknown(self, name, kind):
        """The term of a value of which only the name is known."""
        if not isinstance(name, str):
            raise InvalidArgument("name")
        if not is_kind(kind):
            raise InvalidArgument("kind")
        return self._of_atom(("unknown", kind, name), kind)

    def asked(self, word, kind, parts):
        """The term of what is told by a word and by terms, strings and integers."""
        return self._of_atom(("asked", kind, word, *parts), kind)

    def _of_atom(self, told, kind):
        """The term of an atom, which comes up now if it is new."""
        key = tuple([_key_of(part) for part in told])
        if key not in self._numbers:
            self._numbers[key] = len(self._atoms)
            self._atoms.append(told)
        number = self._numbers[key]
        return ObjectTerm(number) if kind == "object" else NumberTerm(0, ((1, ((number, 1),)),))

    def made(self, op, one, other):
        """The number term of an operation on two terms."""
        if not isinstance(op, str) or op not in OPERATIONS:
            raise InvalidArgument("op")
        if op == "add":
            return _added(one, other, 1)
        if op == "sub":
            return _added(one, other, -1)
        if op == "times":
            return self._times(one, other)
        if op == "less":
            return self._above_0(_added(other, one, -1))
        return self._same(one, other)

    def _times(self, one, other):
        product = _multiplied(one, other)
        if not _is_too_great(product):
            return product
        first, second = (other, one) if _rank(other) < _rank(one) else (one, other)
        return self._of_atom(("times", first, second), "number")

    def _above_0(self, term):
        """1 if a term is above 0, otherwise 0."""
        if len(term.pieces) == 0:
            return NumberTerm(1 if term.integer > 0 else 0, ())
        factor, primitive = _primitive(term)
        if factor > 0:
            return self._of_atom(("above", primitive, -term.integer // factor), "number")
        # g * s + c is above 0 just if s is less than c / -g, so not above the greatest integer below that.
        at_most = -(-term.integer // -factor) - 1
        return _added(NumberTerm(1, ()), self._of_atom(("above", primitive, at_most), "number"), -1)

    def _same(self, one, other):
        """1 if two terms are the same, otherwise 0."""
        if one == other:
            return NumberTerm(1, ())
        if isinstance(one, NumberTerm):
            return self._equal_0(_added(one, other, -1))
        first, second = (other, one) if _comes_ahead(other, one) else (one, other)
        return self._of_atom(("alike", first, second), "number")

    def _equal_0(self, term):
        if len(term.pieces) == 0:
            return NumberTerm(0, ())
        factor, primitive = _primitive(term)
        if term.integer % factor != 0:
            return NumberTerm(0, ())
        return self._of_atom(("equal", primitive, -term.integer // factor), "number")

    def kind(self, term):
        """The kind of a term."""
        return "number" if isinstance(term, NumberTerm) else "object"

    def parts(self, term):
        """The integer and the parts of a number term; the atom of an object term, None of nil."""
        if isinstance(term, ObjectTerm):
            return term.number
        return (term.integer, [(factor, list(atoms)) for factor, atoms in term.pieces])

    def atom(self, number):
        """The tuple of an atom."""
        if not is_integer(number) or not 0 <= number < len(self._atoms):
            raise InvalidNumber(number)
        return self._atoms[number]


def _key_of(part):
    """What stands for a part of an atom in a key: terms have no place there."""
    if isinstance(part, NumberTerm):
        return ("number", part.integer, part.pieces)
    return ("object", part.number) if isinstance(part, ObjectTerm) else part


def _added(one, other, factor):
    """The sum of a term and a multiple of another one."""
    parts = {atoms: number for number, atoms in one.pieces}
    for number, atoms in other.pieces:
        parts[atoms] = parts.get(atoms, 0) + factor * number
    return NumberTerm(one.integer + factor * other.integer, _sum_of(parts))


def _sum_of(parts):
    """The parts of a term, told by a dict from their atoms to their factors."""
    return tuple([(parts[atoms], atoms) for atoms in sorted(list(parts)) if parts[atoms] != 0])


def _multiplied(one, other):
    """The product of two terms, however great it is."""
    parts = {}
    for factor, atoms in [*one.pieces, (one.integer, ())]:
        for other_factor, other_atoms in [*other.pieces, (other.integer, ())]:
            joined = _joined(atoms, other_atoms)
            parts[joined] = parts.get(joined, 0) + factor * other_factor
    integer = parts.pop(())
    return NumberTerm(integer, _sum_of(parts))


def _joined(atoms, other_atoms):
    """The atoms of a product of two parts."""
    powers = dict(atoms)
    for atom, power in other_atoms:
        powers[atom] = powers.get(atom, 0) + power
    return tuple([(atom, powers[atom]) for atom in sorted(list(powers))])


def _is_too_great(term):
    if len(term.pieces) > MOST_PARTS or abs(term.integer) >= TOO_GREAT:
        return True
    for factor, atoms in term.pieces:
        if abs(factor) >= TOO_GREAT or max([power for _, power in atoms]) > GREATEST_POWER:
            return True
    return False


def _rank(term):
    """What orders number terms."""
    return (term.integer, term.pieces)


def _comes_ahead(one, other):
    """Whether an object term comes ahead of an unlike one: nil, or the lesser atom."""
    return one.number is None or (other.number is not None and one.number < other.number)


def _primitive(term):
    """The factor g and the primitive sum s of a term with parts, g * s + c."""
    common = 0
    for factor, _ in term.pieces:
        common = gcd(common, factor)
    if term.pieces[0][0] < 0:
        common = -common
    return (common, NumberTerm(0, tuple([(factor // common, atoms) for factor, atoms in term.pieces])))
