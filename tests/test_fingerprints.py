"""Numbers by which terms are told apart: those of sums and products are the sums and products of theirs."""

import unittest

from backframes.fingerprints import PRIME, Fingerprints
from backframes.terms import Terms


class TestFingerprints(unittest.TestCase):
    def setUp(self):
        self.terms = Terms()
        self.prints = Fingerprints(self.terms)
        self.a = self.terms.unknown("a", "number")
        self.b = self.terms.unknown("b", "number")

    def agree(self, word, one, other):
        """Whether the fingerprint of a term that is made is that of the operation on its parts."""
        made = self.terms.made(word, one, other)
        told = self.prints.of_operation(word, self.prints.of_term(one), self.prints.of_term(other))
        return self.prints.of_term(made) == told

    def power(self, term, many):
        product = self.terms.constant(1)
        for _ in range(many):
            product = self.terms.made("times", product, term)
        return product

    def test_integers(self):
        for number in (0, 1, -1, 10 ** 60, PRIME, PRIME + 3):
            self.assertEqual(self.prints.of_term(self.terms.constant(number)), number % PRIME)

    def test_powers(self):
        told = self.prints.of_term(self.a)
        for many in range(1, 25):
            self.assertEqual(self.prints.of_term(self.power(self.a, many)), pow(told, many, PRIME))

    def test_powers_beside_powers(self):
        one, other = self.prints.of_term(self.a), self.prints.of_term(self.b)
        for many in range(1, 20):
            product = self.terms.made("times", self.power(self.a, many), self.power(self.b, 20 - many))
            product = self.terms.made("times", product, self.terms.constant(-7))
            product = self.terms.made("add", product, self.terms.constant(4))
            self.assertEqual(self.prints.of_term(product), (4 - 7 * pow(one, many, PRIME) * pow(other, 20 - many, PRIME)) % PRIME)

    def test_operations(self):
        total = self.terms.made("add", self.power(self.a, 3), self.terms.made("times", self.terms.constant(5), self.b))
        less = self.terms.made("less", self.a, self.b)
        for one in (self.a, total, less):
            for other in (self.b, total, less, self.terms.constant(10 ** 59)):
                for word in ("add", "sub", "times"):
                    self.assertTrue(self.agree(word, one, other), (word, one, other))

    def test_terms_that_are_not_the_same(self):
        terms = [self.power(self.a, many) for many in range(25)] + [self.power(self.b, many) for many in range(1, 25)]
        self.assertEqual(len({self.prints.of_term(term) for term in terms}), len(terms))


if __name__ == "__main__":
    unittest.main()
