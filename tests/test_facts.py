import itertools
import random
import unittest

from backframes.facts import Facts
from backframes.terms import Terms


class FactsCase(unittest.TestCase):
    def setUp(self):
        self.terms = Terms()
        self.facts = Facts(self.terms)

    def number(self, name):
        return self.terms.unknown(name, "number")

    def thing(self, name):
        return self.terms.unknown(name, "object")

    def made(self, op, one, other):
        one = self.terms.constant(one) if isinstance(one, int) else one
        other = self.terms.constant(other) if isinstance(other, int) else other
        return self.terms.made(op, one, other)

    def holds(self, op, one, other):
        """Assume that an operation is not 0."""
        self.assertTrue(self.facts.assume(self.made(op, one, other), False))

    def fails(self, op, one, other):
        """Assume that an operation is 0."""
        self.assertTrue(self.facts.assume(self.made(op, one, other), True))

    def is_term(self, term, integer, *parts):
        self.assertEqual(self.terms.parts(term), (integer, list(parts)))


class TestSums(FactsCase):
    def test_the_example_of_the_document(self):
        i, n, one = self.number("i"), self.number("n"), self.terms.constant(1)
        product = self.terms.made("times", self.terms.made("add", i, one), self.terms.made("sub", i, one))
        self.assertEqual(self.terms.parts(product), (-1, [(1, [(0, 2)])]))
        facts = Facts(self.terms)
        self.assertEqual(facts.assume(self.terms.made("less", i, n), False), True)
        told = [facts.zero(self.made("less", n, i)), facts.zero(self.made("sub", n, i)), facts.ends(self.made("sub", n, i))]
        self.assertEqual(told, ["zero", "other", (1, None)])

    def test_arguments_by_name(self):
        x, o = self.number("x"), self.thing("o")
        facts = Facts(terms=self.terms)
        self.assertIs(facts.assume(is_zero=True, term=x), True)
        self.assertEqual([facts.zero(term=x), facts.ends(term=x), facts.like(other=o, one=o)], ["zero", (0, 0), "same"])
        self.assertTrue(facts.known(term=x) == self.terms.constant(0))

    def test_nothing_is_known(self):
        x, o = self.number("x"), self.thing("o")
        self.assertTrue(self.facts.known(x) == x and self.facts.known(o) == o)
        self.assertEqual([self.facts.zero(x), self.facts.ends(x)], ["open", (None, None)])
        self.assertEqual(self.facts.like(o, self.thing("p")), "open")
        self.assertEqual(self.facts.like(o, self.terms.nil()), "open")
        self.assertEqual(self.facts.like(self.terms.nil(), self.terms.nil()), "same")

    def test_constants(self):
        for n in (0, 1, -5, 10 ** 60, -(10 ** 60)):
            term = self.terms.constant(n)
            self.assertEqual(self.facts.zero(term), "other" if n else "zero")
            self.assertEqual(self.facts.ends(term), (n, n))
            self.assertEqual([self.facts.assume(term, True), self.facts.assume(term, False)], [n == 0, n != 0])

    def test_an_integer(self):
        x, y = self.number("x"), self.number("y")
        self.assertTrue(self.facts.assume(self.made("sub", self.made("times", x, 3), 21), True))
        self.assertTrue(self.facts.known(x) == self.terms.constant(7))
        self.is_term(self.facts.known(self.made("add", self.made("times", self.made("times", x, x), y), x)), 7, (49, [(1, 1)]))
        self.assertEqual([self.facts.zero(x), self.facts.zero(self.made("sub", x, 7)), self.facts.ends(x)], ["other", "zero", (7, 7)])
        self.assertFalse(self.facts.assume(self.made("sub", x, 8), True))
        self.assertTrue(self.facts.assume(self.made("sub", x, 8), False))
        self.assertFalse(self.facts.assume(self.made("sub", x, 7), False))

    def test_no_integer_fits(self):
        x = self.number("x")
        odd = self.made("add", self.made("times", x, 2), 1)
        self.assertEqual(self.facts.zero(odd), "other")
        self.assertIs(self.facts.assume(odd, True), False)
        self.assertIs(self.facts.assume(odd, False), True)
        self.assertEqual(self.facts.ends(x), (None, None))

    def test_ends_of_multiples(self):
        x, y = self.number("x"), self.number("y")
        self.holds("less", 3, self.made("add", x, y))
        self.holds("less", self.made("add", x, y), 9)
        for factor, integer, ends in ((1, 0, (4, 8)), (2, 1, (9, 17)), (-1, 0, (-8, -4)), (-3, 5, (-19, -7))):
            term = self.made("add", self.made("times", self.made("add", x, y), factor), integer)
            self.assertEqual(self.facts.ends(term), ends)
            self.assertEqual(self.facts.zero(term), "other")
        self.assertEqual(self.facts.zero(self.made("sub", self.made("add", x, y), 6)), "open")
        self.assertEqual(self.facts.zero(self.made("sub", self.made("add", x, y), 9)), "other")
        self.assertEqual(self.facts.ends(x), (None, None))

    def test_a_sum_of_several_parts_with_one_value(self):
        x, y = self.number("x"), self.number("y")
        self.holds("same", x, self.made("add", y, 4))
        difference = self.made("sub", y, x)
        self.assertEqual([self.facts.ends(difference), self.facts.zero(self.made("add", difference, 4))], [(-4, -4), "zero"])
        self.assertTrue(self.facts.known(difference) == difference)
        self.assertTrue(self.facts.known(self.made("same", difference, -4)) == self.terms.constant(1))
        self.assertTrue(self.facts.known(self.made("same", self.made("times", difference, 3), -12)) == self.terms.constant(1))
        self.assertFalse(self.facts.assume(self.made("add", difference, 4), False))
        self.assertEqual(self.facts.zero(self.made("same", self.made("times", x, 2), self.made("add", self.made("times", y, 2), 8))), "other")

    def test_what_such_a_sum_tells(self):
        x, y = self.number("x"), self.number("y")
        self.assertTrue(self.facts.assume(self.made("sub", x, self.made("add", y, 4)), True))
        told = [self.made("same", x, self.made("add", y, 4)), self.made("less", y, x), self.made("same", x, y), self.made("less", x, self.made("add", y, 4))]
        self.assertEqual([self.terms.parts(self.facts.known(term)) for term in told], [(1, []), (1, []), (0, []), (0, [])])
        self.assertTrue(self.facts.known(self.made("add", told[0], y)) == self.made("add", y, 1))

    def test_values_that_are_no_ends(self):
        x = self.number("x")
        self.holds("less", 0, x)
        for n in (3, 2, 5):
            self.assertTrue(self.facts.assume(self.made("sub", x, n), False))
        self.assertEqual(self.facts.ends(x), (1, None))
        self.assertTrue(self.facts.assume(self.made("sub", x, 1), False))
        self.assertEqual(self.facts.ends(x), (4, None))
        self.holds("less", x, 6)
        self.assertTrue(self.facts.known(x) == self.terms.constant(4))
        self.assertFalse(self.facts.assume(self.made("sub", x, 4), False))

    def test_values_that_it_lacks_from_both_sides(self):
        x = self.number("x")
        for n in (1, 2, 7, 8):
            self.assertTrue(self.facts.assume(self.made("sub", x, n), False))
        self.holds("less", 0, x)
        self.holds("less", x, 9)
        self.assertEqual(self.facts.ends(x), (3, 6))
        self.assertEqual(self.facts.zero(self.made("sub", x, 7)), "other")
        self.assertFalse(self.facts.assume(self.made("sub", x, 1), True))

    def test_a_value_between_the_ends(self):
        x = self.number("x")
        self.assertTrue(self.facts.assume(self.made("sub", x, 5), False))
        self.assertEqual([self.facts.zero(self.made("sub", x, 5)), self.facts.ends(x)], ["other", (None, None)])
        self.assertEqual(self.facts.zero(self.made("same", x, 5)), "zero")
        self.assertFalse(self.facts.assume(self.made("sub", x, 5), True))

    def test_no_value_is_left(self):
        x = self.number("x")
        self.holds("less", 0, x)
        self.holds("less", x, 3)
        self.assertTrue(self.facts.assume(self.made("sub", x, 1), False))
        twin = self.facts.twin()
        self.assertFalse(self.facts.assume(self.made("sub", x, 2), False))
        self.assertFalse(self.facts.assume(self.made("less", x, 2), False))
        for facts in (self.facts, twin):
            self.assertEqual(facts.ends(x), (2, 2))

    def test_great_numbers(self):
        x = self.number("x")
        self.holds("less", 10 ** 60, x)
        self.assertEqual(self.facts.ends(self.made("times", x, -2)), (None, -2 * 10 ** 60 - 2))
        self.assertFalse(self.facts.assume(self.made("less", x, 10 ** 60), False))

    def test_one_sum_tells_another(self):
        x, y, z = self.number("x"), self.number("y"), self.number("z")
        total = self.made("add", self.made("times", x, y), z)
        self.holds("less", total, 10)
        self.assertTrue(self.facts.assume(z, True))
        self.assertTrue(self.facts.assume(self.made("sub", x, 3), True))
        self.assertEqual(self.facts.ends(y), (None, 3))
        self.assertFalse(self.facts.assume(self.made("sub", y, 4), True))
        self.assertTrue(self.facts.assume(self.made("less", y, 3), True))
        self.assertTrue(self.facts.known(y) == self.terms.constant(3))

    def test_one_tells_another_over_many_steps(self):
        names = [self.number(name) for name in "abcdef"]
        for one, other in zip(names, names[1:]):
            self.assertTrue(self.facts.assume(self.made("sub", self.made("times", one, other), 6), True))
        self.assertTrue(self.facts.assume(self.made("sub", names[0], 2), True))
        self.assertEqual([self.facts.ends(term) for term in names], [(2, 2), (3, 3)] * 3)
        self.assertTrue(self.facts.known(names[5]) == self.terms.constant(3))

    def test_two_sums_that_tell_unlike_integers(self):
        u, y = self.number("u"), self.number("y")
        self.assertTrue(self.facts.assume(self.made("sub", self.made("times", u, y), 6), True))
        self.assertTrue(self.facts.assume(self.made("sub", self.made("times", self.made("times", u, u), y), 8), True))
        self.assertFalse(self.facts.assume(self.made("sub", u, 2), True))
        self.assertEqual([self.facts.ends(u), self.facts.ends(y)], [(None, None), (None, None)])

    def test_values_that_multiples_lack(self):
        """2 * y is neither 6 nor 5, so y is not 3; and -3 * y is not 6."""
        x, y, z = self.number("x"), self.number("y"), self.number("z")
        for term, value in ((self.made("times", x, y), 6), (self.made("times", x, y), 5), (self.made("times", z, y), 6)):
            self.assertTrue(self.facts.assume(self.made("sub", term, value), False))
        self.assertTrue(self.facts.assume(self.made("sub", x, 2), True))
        self.assertTrue(self.facts.assume(self.made("add", z, 3), True))
        self.assertEqual([self.facts.zero(self.made("sub", y, k)) for k in (-2, 2, 3, 5, 6)], ["other", "open", "other", "open", "open"])
        self.holds("less", 2, y)
        self.assertEqual(self.facts.ends(y), (4, None))

    def test_sums_that_become_one(self):
        x, y, z = self.number("x"), self.number("y"), self.number("z")
        self.holds("less", self.made("add", x, y), 10)
        self.holds("less", 5, self.made("add", x, z))
        self.assertTrue(self.facts.assume(y, True))
        self.assertTrue(self.facts.assume(z, True))
        self.assertEqual(self.facts.ends(x), (6, 9))
        self.assertFalse(self.facts.assume(self.made("less", x, 6), False))

    def test_sums_that_cannot_both_be(self):
        x, y = self.number("x"), self.number("y")
        self.holds("less", self.made("add", x, y), 10)
        self.holds("less", 9, x)
        self.assertFalse(self.facts.assume(y, True))
        self.assertEqual(self.facts.zero(y), "open")
        self.assertTrue(self.facts.assume(self.made("add", y, 5), True))
        self.assertEqual(self.facts.ends(x), (10, 14))


class TestAtoms(FactsCase):
    def test_they_are_0_or_1(self):
        x, o = self.number("x"), self.thing("o")
        for atom in (self.made("less", 5, x), self.made("same", x, 5), self.made("same", o, self.terms.nil())):
            self.assertEqual([self.facts.ends(atom), self.facts.zero(atom)], [(0, 1), "open"])
            self.assertEqual(self.facts.ends(self.made("add", self.made("times", atom, -2), 1)), (-1, 1))
            self.assertEqual(self.facts.zero(self.made("sub", atom, 2)), "other")
            self.assertEqual(self.facts.zero(self.made("add", atom, 1)), "other")
            self.assertFalse(self.facts.assume(self.made("sub", atom, 2), True))
            self.assertEqual(self.facts.zero(self.made("less", atom, 2)), "other")
            self.assertEqual(self.facts.zero(self.made("less", 1, atom)), "zero")
            self.assertEqual(self.facts.ends(self.made("times", atom, atom)), (None, None))

    def test_that_it_is_not_0_makes_it_1(self):
        x = self.number("x")
        less = self.made("less", x, 5)
        self.assertTrue(self.facts.assume(less, False))
        self.assertTrue(self.facts.known(less) == self.terms.constant(1))
        self.assertEqual(self.facts.ends(x), (None, 4))
        other = self.made("less", 2, x)
        self.assertTrue(self.facts.assume(self.made("sub", other, 1), False))
        self.assertTrue(self.facts.known(other) == self.terms.constant(0))
        self.assertEqual(self.facts.ends(x), (None, 2))

    def test_what_above_says(self):
        x, y = self.number("x"), self.number("y")
        self.fails("less", x, self.made("add", y, 3))
        self.assertEqual(self.facts.ends(self.made("sub", x, y)), (3, None))
        self.assertEqual(self.facts.zero(self.made("less", y, x)), "other")
        self.assertEqual(self.facts.zero(self.made("less", x, y)), "zero")
        self.assertEqual(self.facts.zero(self.made("same", x, y)), "zero")
        self.assertEqual(self.facts.zero(self.made("less", self.made("add", y, 3), x)), "open")
        self.assertFalse(self.facts.assume(self.made("same", x, y), False))

    def test_what_equal_says(self):
        x, y = self.number("x"), self.number("y")
        self.holds("same", self.made("times", x, 2), 10)
        self.assertTrue(self.facts.known(self.made("add", x, y)) == self.made("add", y, 5))
        self.fails("same", y, 4)
        self.assertFalse(self.facts.assume(self.made("sub", y, 4), True))
        self.holds("less", 3, y)
        self.assertEqual(self.facts.ends(y), (5, None))

    def test_a_sum_tells_its_atoms(self):
        x = self.number("x")
        atoms = {k: self.made("less", k, x) for k in range(-1, 6)}
        equal = {k: self.made("same", k, x) for k in range(-1, 6)}
        self.holds("less", 1, x)
        self.holds("less", x, 5)
        self.assertEqual([self.facts.zero(atoms[k]) for k in atoms], ["other"] * 3 + ["open"] * 2 + ["zero"] * 2)
        self.assertEqual([self.facts.zero(equal[k]) for k in equal], ["zero"] * 3 + ["open"] * 3 + ["zero"])
        self.assertTrue(self.facts.assume(self.made("sub", x, 3), False))
        self.assertEqual([self.facts.zero(equal[k]) for k in (2, 3, 4)], ["open", "zero", "open"])
        self.assertTrue(self.facts.assume(equal[4], True))
        self.assertTrue(self.facts.known(self.made("add", x, equal[2])) == self.terms.constant(3))

    def test_atoms_within_atoms(self):
        x, y = self.number("x"), self.number("y")
        less = self.made("less", 0, x)
        both = self.made("add", less, self.made("same", y, 2))
        self.holds("less", 1, self.made("add", both, y))
        outer = self.made("same", self.made("times", less, y), 6)
        self.assertTrue(self.facts.assume(x, True))
        self.assertEqual(self.facts.zero(outer), "zero")
        self.assertTrue(self.facts.known(both) == self.made("same", y, 2))
        self.assertTrue(self.facts.assume(self.made("sub", y, 1), False))
        self.assertEqual(self.facts.ends(y), (None, None))
        self.assertFalse(self.facts.assume(self.made("add", y, 9), True))

    def test_within_what_is_asked(self):
        x, y, o, p = self.number("x"), self.number("y"), self.thing("o"), self.thing("p")
        asked = self.terms.asked("get", "number", [o, "f", 3, self.made("add", x, y)])
        deeper = self.terms.asked("get", "object", [p, asked])
        self.assertTrue(self.facts.assume(self.made("sub", x, 4), True))
        self.holds("same", o, self.terms.nil())
        known = self.terms.asked("get", "number", [self.terms.nil(), "f", 3, self.made("add", y, 4)])
        self.assertTrue(self.facts.known(asked) == known)
        self.assertTrue(self.facts.known(deeper) == self.terms.asked("get", "object", [p, known]))
        self.holds("less", known, 3)
        self.assertEqual(self.facts.ends(asked), (None, 2))
        self.assertTrue(self.facts.assume(self.made("sub", asked, 1), True))
        self.assertTrue(self.facts.known(known) == self.terms.constant(1))
        self.assertTrue(self.facts.known(deeper) == self.terms.asked("get", "object", [p, self.terms.constant(1)]))

    def test_what_is_known_stays_known_under_another_name(self):
        x, o = self.number("x"), self.thing("o")
        asked = self.terms.asked("get", "number", [o, x])
        self.assertTrue(self.facts.assume(self.made("sub", asked, 5), True))
        self.assertTrue(self.facts.assume(x, True))
        self.assertTrue(self.facts.known(self.terms.asked("get", "number", [o, self.terms.constant(0)])) == self.terms.constant(5))
        self.assertFalse(self.facts.assume(self.terms.asked("get", "number", [o, self.terms.constant(0)]), True))

    def test_two_names_of_one_thing(self):
        o, x = self.thing("o"), self.number("x")
        one = self.terms.asked("get", "number", [o, x])
        other = self.terms.asked("get", "number", [o, self.terms.constant(0)])
        self.holds("same", one, 5)
        self.holds("same", other, 6)
        self.assertFalse(self.facts.assume(x, True))
        self.assertTrue(self.facts.assume(x, False))

    def test_products_that_were_too_great(self):
        x, y = self.number("x"), self.number("y")
        power = x
        for _ in range(19):
            power = self.made("times", power, x)
        great = self.made("times", power, self.made("times", x, y))
        self.assertEqual(self.terms.atom(self.terms.parts(great)[1][0][1][0][0])[0], "times")
        self.assertTrue(self.facts.assume(self.made("sub", x, 2), True))
        self.is_term(self.facts.known(great), 0, (2 ** 21, [(1, 1)]))
        self.assertTrue(self.facts.assume(self.made("sub", great, 2 ** 21), True))
        self.assertTrue(self.facts.known(y) == self.terms.constant(1))


class TestObjects(FactsCase):
    def test_nil(self):
        o, p, nil = self.thing("o"), self.thing("p"), self.terms.nil()
        self.holds("same", o, nil)
        self.assertTrue(self.facts.known(o) == nil)
        self.assertEqual([self.facts.like(o, nil), self.facts.like(o, p), self.facts.like(p, nil)], ["same", "open", "open"])
        self.assertFalse(self.facts.assume(self.made("same", nil, o), True))
        self.fails("same", p, o)
        self.assertEqual([self.facts.like(p, nil), self.facts.like(o, p)], ["unlike", "unlike"])
        self.assertEqual(self.facts.zero(self.made("same", nil, p)), "zero")
        self.assertFalse(self.facts.assume(self.made("same", nil, p), False))

    def test_two_objects(self):
        o, p, q = self.thing("o"), self.thing("p"), self.thing("q")
        self.holds("same", o, p)
        self.fails("same", q, p)
        self.assertEqual([self.facts.like(p, o), self.facts.like(q, p), self.facts.like(o, q)], ["same", "unlike", "open"])
        self.assertTrue(self.facts.known(o) == o)
        self.holds("same", p, self.terms.nil())
        self.assertTrue(self.facts.known(o) == self.terms.nil())
        self.assertEqual(self.facts.like(self.terms.nil(), q), "unlike")

    def test_objects_that_cannot_be_nil_both(self):
        o, p, nil = self.thing("o"), self.thing("p"), self.terms.nil()
        self.fails("same", o, p)
        self.holds("same", o, nil)
        self.assertFalse(self.facts.assume(self.made("same", p, nil), False))
        self.assertEqual(self.facts.like(p, nil), "unlike")

    def test_what_was_asked_of_nil(self):
        o, nil = self.thing("o"), self.terms.nil()
        asked = self.terms.asked("get", "object", [o, "next"])
        self.holds("same", asked, nil)
        self.holds("same", o, nil)
        self.assertTrue(self.facts.known(self.terms.asked("get", "object", [nil, "next"])) == nil)
        self.assertTrue(self.facts.known(asked) == nil)

    def test_alike_as_a_number(self):
        o, p, x = self.thing("o"), self.thing("p"), self.number("x")
        alike = self.made("same", o, p)
        self.holds("less", self.made("add", alike, x), 1)
        self.assertTrue(self.facts.assume(self.made("sub", alike, 1), True))
        self.assertEqual([self.facts.like(o, p), self.facts.ends(x)], ["same", (None, -1)])


class TestTwins(FactsCase):
    def test_they_go_on_by_themselves(self):
        x, y, o = self.number("x"), self.number("y"), self.thing("o")
        self.holds("less", 0, x)
        twin = self.facts.twin()
        self.assertEqual(twin.ends(x), (1, None))
        self.assertTrue(self.facts.assume(self.made("sub", x, 1), True))
        self.assertTrue(twin.assume(self.made("sub", x, 2), True))
        self.assertTrue(twin.assume(self.made("same", o, self.terms.nil()), False))
        self.assertTrue(self.facts.known(self.made("add", x, y)) == self.made("add", y, 1))
        self.assertTrue(twin.known(self.made("add", x, y)) == self.made("add", y, 2))
        self.assertEqual([self.facts.like(o, self.terms.nil()), twin.like(o, self.terms.nil())], ["open", "same"])

    def test_what_cannot_be_changes_nothing(self):
        x, y = self.number("x"), self.number("y")
        self.holds("less", x, y)
        self.assertFalse(self.facts.assume(self.made("less", y, self.made("add", x, 1)), False))
        self.assertEqual(self.facts.ends(self.made("sub", y, x)), (1, None))
        self.assertTrue(self.facts.known(self.made("less", y, x)) == self.terms.constant(0))

    def test_long_rows_of_atoms(self):
        x = self.number("x")
        term = x
        for _ in range(1500):
            term = self.made("less", 0, self.made("add", term, self.number("y")))
        self.assertTrue(self.facts.assume(self.made("sub", self.number("y"), 7), True))
        self.assertTrue(self.facts.known(term) == self.terms.constant(1))
        self.assertTrue(self.facts.known(x) == x)


def value_of(terms, term, held):
    """The value of a term by a dict of values of unknowns; what is asked is some value of its parts."""
    told = terms.parts(term)
    if terms.kind(term) == "object":
        return None if told is None else value_of_atom(terms, told, held)
    total = told[0]
    for factor, atoms in told[1]:
        for atom, power in atoms:
            factor *= value_of_atom(terms, atom, held) ** power
        total += factor
    return total


def value_of_atom(terms, number, held):
    told = terms.atom(number)
    if told[0] == "unknown":
        return held[told[2]]
    parts = [part if isinstance(part, (str, int)) else value_of(terms, part, held) for part in told[1:]]
    if told[0] == "above":
        return int(parts[0] > parts[1])
    if told[0] in ("equal", "alike"):
        return int(parts[0] == parts[1])
    if told[0] == "times":
        return parts[0] * parts[1]
    some = sum((k + 2) * (7 if part is None else len(part) if isinstance(part, str) else part) for k, part in enumerate(parts))
    return some % 3 - 1 if parts[0] == "number" else [None, 1, 2, 3][some % 4]


class TestRandom(unittest.TestCase):
    """Whatever is known is true of all values for which what was assumed is true."""

    def test_against_all_values(self):
        for seed in range(220):
            chance = random.Random(seed)
            terms = Terms()
            numbers = [terms.unknown(name, "number") for name in "xy"] + [terms.constant(chance.randint(-2, 2))]
            things = [terms.unknown(name, "object") for name in "op"] + [terms.nil()]
            self.grow(chance, terms, numbers, things)
            held = [dict(zip("xyop", values)) for values in itertools.product(range(-3, 4), range(-3, 4), (None, 1, 2), (None, 1, 2))]
            facts = Facts(terms)
            for _ in range(4):
                term, is_zero = chance.choice(numbers), chance.random() < 0.5
                left = [values for values in held if (value_of(terms, term, values) == 0) == is_zero]
                if not facts.assume(term, is_zero):
                    self.assertEqual(left, [])
                    continue
                held = left
                self.check(terms, facts, numbers, things, chance.sample(held, min(len(held), 40)))

    def grow(self, chance, terms, numbers, things):
        for _ in range(8):
            word = chance.choice(["add", "sub", "times", "less", "same", "alike", "number", "object"])
            if word in ("number", "object"):
                asked = terms.asked("get", word, [chance.choice(things), "f", chance.choice(numbers)])
                (numbers if word == "number" else things).append(asked)
            elif word == "alike":
                numbers.append(terms.made("same", chance.choice(things), chance.choice(things)))
            else:
                numbers.append(terms.made(word, chance.choice(numbers), chance.choice(numbers)))

    def check(self, terms, facts, numbers, things, held):
        for term in numbers:
            known, (least, greatest), zero = facts.known(term), facts.ends(term), facts.zero(term)
            self.assertTrue(facts.known(known) == known)
            for values in held:
                value = value_of(terms, term, values)
                self.assertEqual(value_of(terms, known, values), value)
                self.assertTrue((least is None or least <= value) and (greatest is None or value <= greatest))
                self.assertIn(zero, ("open", "other" if value else "zero"))
        for one, other in itertools.product(things, repeat=2):
            like = facts.like(one, other)
            for values in held:
                same = value_of(terms, one, values) == value_of(terms, other, values)
                self.assertIn(like, ("open", "same" if same else "unlike"))


if __name__ == "__main__":
    unittest.main()
