"""What is known of terms: the ranges of sums, atoms with just one value, and atoms that are nil.

A range is a tuple (least, greatest, lacking): None where an end is not known, and the ascending tuple of the
values that the sum does not have, all of them between the ends.
"""

from backframes.rewriting import Rewriter
from backframes.termforms import NumberTerm, ObjectTerm, atoms_in, only_atom, primitive_of

ANYTHING = (None, None, ())
EITHER = (0, 1, ())
NO_VALUE = (1, 0, ())


class Knowledge:
    """What is known of terms at some time; it is noted in a copy, which then stays as it is."""

    def __init__(self, terms):
        self._terms = terms
        self._ranges = {}
        self._given = {}
        self._nils = {}
        self._fits = True
        self._rewriter = Rewriter(terms, self)

    def _copied(self):
        other = Knowledge(self._terms)
        other._ranges = {pieces: self._ranges[pieces] for pieces in self._ranges}
        other._given = dict(self._given)
        other._nils = dict(self._nils)
        return other

    def with_zero(self, term, is_zero):
        """What is known if a term is 0, too, or is not; None if this cannot be."""
        term = self.renewed(term)
        if len(term.pieces) == 0:
            return self if (term.integer == 0) == is_zero else None
        factor, primitive = primitive_of(term)
        if term.integer % factor != 0:
            return None if is_zero else self
        value = -term.integer // factor
        other = self._copied()
        other._note(primitive, (value, value, ()) if is_zero else (None, None, (value,)))
        return other if other._closes() else None

    def without(self, barred):
        """What is known of the sums in which no atom of certain words stands, also within atoms.

        barred is a tuple of the words of atoms; for one that is asked, it is the word that was asked.
        """
        held = self._atoms_that_hold(barred)
        other = Knowledge(self._terms)
        kept = [pieces for pieces in self._ranges if not any([held[atom] for atom in atoms_in(NumberTerm(0, pieces))])]
        other._ranges = {pieces: self._ranges[pieces] for pieces in kept}
        other._given = {atom: self._given[atom] for atom in self._given if not held[atom]}
        other._nils = {atom: True for atom in self._nils if not held[atom]}
        return other

    def _atoms_that_hold(self, barred):
        """The list of whether each atom is one of the barred words, or such a one stands within it."""
        held = []
        # What stands within an atom came up ahead of it.
        for atom in range(self._terms.many_atoms()):
            told = self._terms.atom(atom)
            word = told[2] if told[0] == "asked" else told[0]
            held.append(word in barred or any([held[inner] for inner in self._terms.atoms_within(atom)]))
        return held

    def tells_as(self, other):
        """Whether just the same is known elsewhere."""
        return self._ranges == other._ranges and self._given == other._given and self._nils == other._nils

    def renewed(self, term):
        """A term with all that is put in."""
        return self._rewriter.renewed(term)

    def range_of(self, pieces):
        """The range of a primitive sum that is made anew."""
        return self._ranges[pieces] if pieces in self._ranges else self._range_of_any(pieces)

    def _range_of_any(self, pieces):
        """The range of a primitive sum of which nothing has been noted."""
        atom = only_atom(pieces)
        told = None if atom is None else self._terms.atom(atom)
        return EITHER if told is not None and told[0] in ("above", "equal", "alike") else ANYTHING

    def zeros(self):
        """The list of the terms of sums with just one value, each without this value."""
        found = []
        for pieces in self._ranges:
            least, greatest, _ = self._ranges[pieces]
            if least is not None and least == greatest:
                found.append(NumberTerm(-least, pieces))
        return found

    def gives_products(self):
        """Whether a product that is an atom has just one value."""
        return any([self._terms.atom(atom)[0] == "times" for atom in self._given])

    def fixed(self, atom):
        """The integer or nil that stands in the place of an atom, or None."""
        if atom in self._given:
            return NumberTerm(self._given[atom], ())
        return ObjectTerm(None) if atom in self._nils else None

    def settled(self, atom):
        """What is known of an atom by the sum of which it tells, or None."""
        told = self._terms.atom(atom)
        if told[0] == "above":
            return settled_above(self.range_of(told[1].pieces), told[2])
        return settled_equal(self.range_of(told[1].pieces), told[2]) if told[0] == "equal" else None

    def _closes(self):
        """Note all that follows; returns whether it can be."""
        closed = False
        while self._fits and not closed:
            self._rewriter.forget()
            closed = not self._renew()
        self._rewriter.forget()
        return self._fits

    def _renew(self):
        """Put all that is known into what is known; returns whether this changed anything."""
        ahead = (self._ranges, self._given, self._nils)
        renewed = [(self.renewed(NumberTerm(0, pieces)), self._ranges[pieces]) for pieces in self._ranges]
        for atom in self._given:
            value = self._given[atom]
            renewed.append((self._rewriter.renewed_within(atom), (value, value, ())))
        nils = [self._rewriter.renewed_within(atom) for atom in self._nils]
        self._ranges = {}
        self._given = dict(self._given)
        self._nils = dict(self._nils)
        for term, told in renewed:
            self._note(term, told)
        for term in nils:
            if term.number is not None:
                self._nils[term.number] = True
        return ahead != (self._ranges, self._given, self._nils)

    def _note(self, term, told):
        """Note that the value of a term lies within a range."""
        if len(term.pieces) == 0:
            if not _is_within(told, term.integer):
                self._fits = False
            return
        factor, primitive = primitive_of(term)
        pieces = primitive.pieces
        narrowed = _met(self.range_of(pieces), _divided(told, factor, term.integer))
        least, greatest, _ = narrowed
        if least is not None and greatest is not None and least > greatest:
            self._fits = False
            return
        atom = only_atom(pieces)
        if atom is not None and least is not None and least == greatest:
            self._give(atom, least)
        elif narrowed != self._range_of_any(pieces):
            self._ranges[pieces] = narrowed

    def _give(self, atom, value):
        """Note that an atom is an integer, and what it says then."""
        if self._given.get(atom, value) != value:
            self._fits = False
        if atom in self._given:
            return
        self._given[atom] = value
        told = self._terms.atom(atom)
        if told[0] == "above":
            self._note(told[1], (told[2] + 1, None, ()) if value == 1 else (None, told[2], ()))
        elif told[0] == "equal":
            self._note(told[1], (told[2], told[2], ()) if value == 1 else (None, None, (told[2],)))
        elif told[0] == "alike" and told[1].number is None and value == 1:
            self._nils[told[2].number] = True


def settled_above(told, k):
    least, greatest, _ = told
    if least is not None and least > k:
        return NumberTerm(1, ())
    return NumberTerm(0, ()) if greatest is not None and greatest <= k else None


def settled_equal(told, k):
    if not _is_within(told, k):
        return NumberTerm(0, ())
    return NumberTerm(1, ()) if told[0] is not None and told[0] == told[1] else None


def _is_within(told, value):
    """Whether a value is none that a sum with this range does not have."""
    least, greatest, lacking = told
    if least is not None and value < least or greatest is not None and value > greatest:
        return False
    return value not in lacking


def ends_times(told, factor, integer):
    """The least and the greatest value of a multiple of a sum with an integer beside it, by the range of the sum."""
    ends = [None if end is None else factor * end + integer for end in told[:2]]
    return (ends[0], ends[1]) if factor > 0 else (ends[1], ends[0])


def _divided(told, factor, integer):
    """The range of a sum, by that of a multiple of it with an integer beside it."""
    least, greatest, lacking = told
    if factor < 0:
        least, greatest = greatest, least
    # The quotients are rounded towards the inside; with a factor below 0, the least end is the greatest quotient.
    least = None if least is None else -(-(least - integer) // factor)
    greatest = None if greatest is None else (greatest - integer) // factor
    lacking = [(value - integer) // factor for value in lacking if (value - integer) % factor == 0]
    return (least, greatest, tuple(sorted(lacking)))


def _met(one, other):
    """The range of what lies within two ranges."""
    least = _chosen(one[0], other[0], True)
    greatest = _chosen(one[1], other[1], False)
    lacking = {value: True for value in one[2] + other[2]}
    while least is not None and least in lacking:
        least += 1
    while greatest is not None and greatest in lacking:
        greatest -= 1
    if least is not None and greatest is not None and least > greatest:
        return NO_VALUE
    inside = [value for value in sorted(list(lacking)) if least is None or value > least]
    return (least, greatest, tuple([value for value in inside if greatest is None or value < greatest]))


def _chosen(one, other, is_least):
    """The narrower one of two ends."""
    if one is None or other is None:
        return other if one is None else one
    return max(one, other) if is_least else min(one, other)
