"""The forms of terms: sums of parts, and atoms; each part of a sum is a product of powers of atoms."""

from math import gcd

MOST_PARTS = 40
GREATEST_POWER = 20
TOO_GREAT = 10 ** 60


class NumberTerm:
    """An integer and a sum of parts.

    The pieces are the tuple of the parts, tuples (factor, atoms) in the order of their atoms: ascending
    tuples of tuples (atom, power).
    """

    def __init__(self, integer, pieces):
        self.integer = integer
        self.pieces = pieces

    def __eq__(self, other):
        return isinstance(other, NumberTerm) and self.integer == other.integer and self.pieces == other.pieces


class ObjectTerm:
    """An atom that is an object, told by its number; or nil, whose number is None."""

    def __init__(self, number):
        self.number = number

    def __eq__(self, other):
        return isinstance(other, ObjectTerm) and self.number == other.number


def number_atom(atom):
    """The number term of an atom alone."""
    return NumberTerm(0, ((1, ((atom, 1),)),))


def is_term(thing):
    return isinstance(thing, NumberTerm) or isinstance(thing, ObjectTerm)


def atoms_in(term):
    """The list of the atoms of a term, without those within these; one may be there more than once."""
    if isinstance(term, ObjectTerm):
        return [] if term.number is None else [term.number]
    return [atom for _, atoms in term.pieces for atom, _ in atoms]


def only_atom(pieces):
    """The atom of which a sum consists, or None for another sum."""
    if len(pieces) != 1 or pieces[0][0] != 1 or len(pieces[0][1]) != 1 or pieces[0][1][0][1] != 1:
        return None
    return pieces[0][1][0][0]


def factor_of(term, atoms):
    """The factor of the part of a term with some atoms, 0 if there is none."""
    return sum([factor for factor, others in term.pieces if others == atoms])


def key_of(part):
    """What stands for a part of an atom in a key: terms have no place there."""
    if isinstance(part, NumberTerm):
        return ("number", part.integer, part.pieces)
    return ("object", part.number) if isinstance(part, ObjectTerm) else part


def added(one, other, factor):
    """The sum of a term and a multiple of another one."""
    parts = {atoms: number for number, atoms in one.pieces}
    for number, atoms in other.pieces:
        parts[atoms] = parts.get(atoms, 0) + factor * number
    return NumberTerm(one.integer + factor * other.integer, _sum_of(parts))


def _sum_of(parts):
    """The parts of a term, told by a dict from their atoms to their factors."""
    return tuple([(parts[atoms], atoms) for atoms in sorted(list(parts)) if parts[atoms] != 0])


def multiplied(one, other):
    """The product of two terms, however great it is."""
    parts = {}
    for factor, atoms in [*one.pieces, (one.integer, ())]:
        for other_factor, other_atoms in [*other.pieces, (other.integer, ())]:
            joined = _joined(atoms, other_atoms)
            parts[joined] = parts.get(joined, 0) + factor * other_factor
    integer = parts.pop(())
    return NumberTerm(integer, _sum_of(parts))


def _joined(atoms, other_atoms):
    """The atoms of a product of two parts."""
    powers = dict(atoms)
    for atom, power in other_atoms:
        powers[atom] = powers.get(atom, 0) + power
    return tuple([(atom, powers[atom]) for atom in sorted(list(powers))])


def is_too_great(term):
    if len(term.pieces) > MOST_PARTS or abs(term.integer) >= TOO_GREAT:
        return True
    for factor, atoms in term.pieces:
        if abs(factor) >= TOO_GREAT or max([power for _, power in atoms]) > GREATEST_POWER:
            return True
    return False


def rank_of(term):
    """What orders number terms."""
    return (term.integer, term.pieces)


def comes_ahead(one, other):
    """Whether an object term comes ahead of an unlike one: nil, or the lesser atom."""
    return one.number is None or (other.number is not None and one.number < other.number)


def primitive_of(term):
    """The factor g and the primitive sum s of a term with parts, g * s + c."""
    common = 0
    for factor, _ in term.pieces:
        common = gcd(common, factor)
    if term.pieces[0][0] < 0:
        common = -common
    return (common, NumberTerm(0, tuple([(factor // common, atoms) for factor, atoms in term.pieces])))
