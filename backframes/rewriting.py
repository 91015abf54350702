"""Terms that are made anew, with other terms in the place of some atoms, also within atoms."""

from backframes.termforms import NumberTerm, ObjectTerm, added, atoms_in, is_term, number_atom


class Rewriter:
    """Makes terms anew.

    rules is an object with two methods that return a term, or None: fixed(atom) tells what stands in the
    place of an atom, whatever it is made of; settled(atom) what does once nothing else is to be put into it.
    """

    def __init__(self, terms, rules):
        self._terms = terms
        self._rules = rules
        # What stands in the place of the atoms that were looked at; None for those that stay.
        self._found = {}

    def forget(self):
        """Look at all atoms again: the rules have changed."""
        self._found = {}

    def renewed(self, term):
        """A term with all that is put in."""
        atoms = atoms_in(term)
        for atom in atoms:
            if atom not in self._found:
                self._find([atom])
        return self._with_found(term, atoms)

    def renewed_within(self, atom):
        """The term of an atom with all that is put into its parts, though not in its own place."""
        self._find(self._terms.atoms_within(atom))
        rebuilt = self._rebuilt(atom)
        return rebuilt if rebuilt == self._own(atom) else self.renewed(rebuilt)

    def _find(self, atoms):
        # Atoms may lie within one another to any depth, so those that wait are kept in a list.
        waiting = list(atoms)
        while waiting:
            atom = waiting[-1]
            lacking = [] if atom in self._found else self._look_at(atom)
            waiting.extend(lacking)
            if len(lacking) == 0:
                waiting.pop()

    def _look_at(self, atom):
        """Note what stands in the place of an atom; or return the list of the atoms that are to be looked at first."""
        fixed = self._rules.fixed(atom)
        if fixed is not None:
            self._found[atom] = fixed
            return []
        within = self._terms.atoms_within(atom)
        lacking = self._lacking(within)
        if len(lacking) > 0:
            return lacking
        if not self._changes(within):
            self._found[atom] = self._rules.settled(atom)
            return []
        rebuilt = self._rebuilt(atom)
        atoms = atoms_in(rebuilt)
        lacking = self._lacking(atoms)
        if len(lacking) == 0:
            self._found[atom] = self._with_found(rebuilt, atoms)
        return lacking

    def _lacking(self, atoms):
        return [atom for atom in atoms if atom not in self._found]

    def _own(self, atom):
        """The term of an atom as it is."""
        told = self._terms.atom(atom)
        if told[0] in ("unknown", "asked"):
            return ObjectTerm(atom) if told[1] == "object" else number_atom(atom)
        return number_atom(atom) if told[0] in ("above", "equal", "alike", "times") else ObjectTerm(atom)

    def _rebuilt(self, atom):
        """The term of an atom whose parts are made anew."""
        told = self._terms.atom(atom)
        parts = [self._with_found(part, atoms_in(part)) if is_term(part) else part for part in told]
        word = told[0]
        if word == "above":
            return self._terms.made("less", self._terms.constant(parts[2]), parts[1])
        if word == "equal":
            return self._terms.made("same", parts[1], self._terms.constant(parts[2]))
        if word == "alike":
            return self._terms.made("same", parts[1], parts[2])
        if word == "times":
            return self._terms.made("times", parts[1], parts[2])
        if word == "asked":
            return self._terms.asked(parts[2], parts[1], parts[3:])
        return self._own(atom)

    def _with_found(self, term, atoms):
        """A term in which all atoms, those of a list, have been looked at, with what stands in their places."""
        if not self._changes(atoms):
            return term
        if isinstance(term, ObjectTerm):
            return self._found[term.number]
        kept = [piece for piece in term.pieces if not self._changes_piece(piece)]
        total = NumberTerm(term.integer, tuple(kept))
        for piece in term.pieces:
            if self._changes_piece(piece):
                total = added(total, self._product(piece[1]), piece[0])
        return total

    def _changes_piece(self, piece):
        return self._changes([atom for atom, _ in piece[1]])

    def _changes(self, atoms):
        """Whether something stands in the place of one of the atoms."""
        for atom in atoms:
            if self._found[atom] is not None:
                return True
        return False

    def _product(self, atoms):
        product = None
        for atom, power in atoms:
            found = self._found[atom]
            value = number_atom(atom) if found is None else found
            for _ in range(power):
                product = value if product is None else self._terms.made("times", product, value)
        return product
