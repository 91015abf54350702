"""Facts: what is known of terms."""

from backframes.knowledge import Knowledge, ends_times, settled_equal
from backframes.termforms import primitive_of


class Facts:
    """What is known of the terms of some Terms."""

    def __init__(self, terms):
        self.terms = terms
        # Knowledge stays as it is once it is noted, so that twins may share it.
        self._knowledge = Knowledge(terms)

    def assume(self, term, is_zero):
        """Note that a number term is 0, or is not; returns whether this can be."""
        changed = self._knowledge.with_zero(term, is_zero)
        if changed is None:
            return False
        self._knowledge = changed
        return True

    def known(self, term):
        """A term with all that is put in."""
        return self._knowledge.renewed(term)

    def zero(self, term):
        """Whether a number term is known to be 0 or not to be: "zero", "other" or "open"."""
        term = self.known(term)
        if len(term.pieces) == 0:
            return "zero" if term.integer == 0 else "other"
        factor, primitive = primitive_of(term)
        if term.integer % factor != 0:
            return "other"
        same = settled_equal(self._knowledge.range_of(primitive.pieces), -term.integer // factor)
        if same is None:
            return "open"
        return "other" if same.integer == 0 else "zero"

    def ends(self, term):
        """The least and the greatest value that a number term is known to have, or None."""
        term = self.known(term)
        if len(term.pieces) == 0:
            return (term.integer, term.integer)
        factor, primitive = primitive_of(term)
        return ends_times(self._knowledge.range_of(primitive.pieces), factor, term.integer)

    def like(self, one, other):
        """Whether two object terms are known to be the same object: "same", "unlike" or "open"."""
        alike = self.known(self.terms.made("same", self.known(one), self.known(other)))
        if len(alike.pieces) > 0:
            return "open"
        return "unlike" if alike.integer == 0 else "same"

    def twin(self):
        """Facts that know the same, and then go on by themselves."""
        other = Facts(self.terms)
        other._knowledge = self._knowledge
        return other

    def zeros(self):
        """The list of the terms of several parts that are known to be 0."""
        return self._knowledge.zeros()

    def keeps_products(self):
        """Whether sums and products of what is known are known just as they are made."""
        return len(self.zeros()) == 0 and not self._knowledge.gives_products()

    def restricted(self, barred):
        """Facts that know this of the sums alone in which no atom of certain words stands."""
        other = Facts(self.terms)
        other._knowledge = self._knowledge.without(barred)
        return other

    def know_as(self, other):
        """Whether other facts know just the same."""
        return self._knowledge.tells_as(other._knowledge)
