"""Numbers by which most terms that are not the same are told apart, as products of terms take long to make.

A fingerprint is the value of a term, but for multiples of a great prime, if each atom has a number of its own:
terms that are the same have the same one, and the one of a sum or a product is that of theirs.
"""

from backframes.termforms import atoms_in
from backframes.values import operated

PRIME = 2 ** 61 - 1
SPREAD = 6364136223846793005


class Fingerprints:
    """The fingerprints of number terms."""

    def __init__(self, terms):
        self._terms = terms
        self._atoms = {}

    def of_term(self, term):
        self._find(atoms_in(term))
        return self._sum(term)

    def of_operation(self, word, one, other):
        """The fingerprint of a sum, a difference or a product, by those of its terms."""
        return operated(word, one, other) % PRIME

    def _sum(self, term):
        total = term.integer
        for factor, atoms in term.pieces:
            for atom, power in atoms:
                for _ in range(power):
                    factor = factor * self._atoms[atom] % PRIME
            total += factor
        return total % PRIME

    def _find(self, atoms):
        # A product that is an atom has that of its factors, which may be products again to any depth.
        waiting = list(atoms)
        while waiting:
            atom = waiting[-1]
            told = self._terms.atom(atom)
            inner = self._terms.atoms_within(atom) if told[0] == "times" else []
            lacking = [other for other in inner if other not in self._atoms]
            waiting.extend(lacking)
            if len(lacking) == 0:
                self._atoms[waiting.pop()] = self._number_of(atom, told)

    def _number_of(self, atom, told):
        if told[0] == "times":
            return self._sum(told[1]) * self._sum(told[2]) % PRIME
        number = (atom + 1) * SPREAD % PRIME
        return number * number * number % PRIME
