import itertools
import random
import unittest

from backframes.errors import InvalidArgument, InvalidNumber
from backframes.terms import Terms
from tests.samples import odd_things

OPS = ("add", "sub", "times", "less", "same")
DIGITS_60 = 10 ** 60 - 1


class TermsCase(unittest.TestCase):
    def setUp(self):
        self.terms = Terms()

    def number(self, name):
        return self.terms.unknown(name, "number")

    def thing(self, name):
        return self.terms.unknown(name, "object")

    def constant(self, n):
        return self.terms.constant(n)

    def made(self, op, one, other):
        one = self.constant(one) if isinstance(one, int) else one
        other = self.constant(other) if isinstance(other, int) else other
        return self.terms.made(op, one, other)

    def sum(self, *terms):
        total = self.constant(0)
        for term in terms:
            total = self.made("add", total, term)
        return total

    def power(self, term, many):
        product = term
        for _ in range(many - 1):
            product = self.made("times", product, term)
        return product

    def is_term(self, term, integer, *parts):
        self.assertEqual(self.terms.parts(term), (integer, list(parts)))

    def only_atom(self, term):
        """The tuple of the atom that a term is, and nothing else."""
        integer, parts = self.terms.parts(term)
        self.assertEqual((integer, len(parts)), (0, 1))
        factor, atoms = parts[0]
        self.assertEqual((factor, len(atoms), atoms[0][1]), (1, 1, 1))
        return self.terms.atom(atoms[0][0])


class TestPlainTerms(TermsCase):
    def test_the_example_of_the_document(self):
        i, n, one = self.number("i"), self.number("n"), self.constant(1)
        product = self.terms.made("times", self.terms.made("add", i, one), self.terms.made("sub", i, one))
        self.assertEqual(self.terms.parts(product), (-1, [(1, [(0, 2)])]))
        self.assertFalse(i == n)

    def test_constants(self):
        for n in (0, 1, -7, 10 ** 100, -(10 ** 100)):
            self.is_term(self.terms.constant(n=n), n)
            self.assertEqual(self.terms.kind(self.constant(n)), "number")
            self.assertTrue(self.constant(n) == self.constant(n))
        self.assertFalse(self.constant(1) == self.constant(2))
        self.assertTrue(self.constant(1) != self.constant(2))
        for thing in odd_things():
            if not isinstance(thing, int) or isinstance(thing, bool):
                with self.assertRaises(InvalidNumber) as caught:
                    self.constant(thing)
                self.assertIs(caught.exception.number, thing)

    def test_nil(self):
        nil = self.terms.nil()
        self.assertEqual((self.terms.kind(nil), self.terms.parts(nil)), ("object", None))
        self.assertTrue(nil == self.terms.nil())
        self.assertFalse(nil == self.constant(0))

    def test_unknowns(self):
        a, b, c, again = self.number("a"), self.thing("a"), self.number(""), self.terms.unknown(kind="number", name="a")
        self.assertEqual([self.terms.parts(term) for term in (a, b, c)], [(0, [(1, [(0, 1)])]), 1, (0, [(1, [(2, 1)])])])
        self.assertEqual([self.terms.kind(term) for term in (a, b, c)], ["number", "object", "number"])
        self.assertEqual([self.terms.atom(k) for k in range(3)], [("unknown", "number", "a"), ("unknown", "object", "a"), ("unknown", "number", "")])
        self.assertTrue(a == again)
        self.assertFalse(a == c or a == b or b == self.terms.nil())
        self.assertTrue(self.thing("a") == b)
        self.assertFalse(self.thing("A") == b)

    def test_terms_are_equal_to_nothing_else(self):
        for thing in odd_things():
            for term in (self.constant(1), self.number("a"), self.thing("a"), self.terms.nil()):
                self.assertFalse(term == thing)
                self.assertFalse(thing == term)

    def test_wrong_unknowns(self):
        for thing in odd_things():
            if not isinstance(thing, str):
                for kind in ("number", thing):
                    with self.assertRaises(InvalidArgument) as caught:
                        self.terms.unknown(thing, kind)
                    self.assertEqual(caught.exception.part, "name")
        for thing in [*odd_things(), "Number", "objects", ("number",), ["number"]]:
            with self.assertRaises(InvalidArgument) as caught:
                self.terms.unknown("a", thing)
            self.assertEqual(caught.exception.part, "kind")
        with self.assertRaises(InvalidNumber):
            self.terms.atom(0)

    def test_atoms(self):
        self.number("a")
        self.assertEqual(self.terms.atom(number=0), ("unknown", "number", "a"))
        for thing in [*odd_things(), 1, -1, "0", [0], 0.0]:
            with self.assertRaises(InvalidNumber) as caught:
                self.terms.atom(thing)
            self.assertIs(caught.exception.number, thing)
        self.thing("b")
        self.assertEqual(self.terms.atom(1), ("unknown", "object", "b"))

    def test_what_is_returned_is_new(self):
        term = self.made("add", self.power(self.number("a"), 2), 3)
        told = self.terms.parts(term)
        told[1][0][1].clear()
        told[1].clear()
        self.is_term(term, 3, (1, [(0, 2)]))

    def test_terms_of_their_own(self):
        other = Terms()
        self.number("a")
        other.unknown("b", "object")
        self.assertEqual([self.terms.atom(0), other.atom(0)], [("unknown", "number", "a"), ("unknown", "object", "b")])


class TestAsked(TermsCase):
    def test_the_same_for_the_same(self):
        a, o = self.number("a"), self.thing("o")
        one = self.terms.asked("call", "number", ["f", 3, a, o, self.terms.nil()])
        self.assertEqual(self.terms.atom(2), ("asked", "number", "call", "f", 3, a, o, self.terms.nil()))
        self.is_term(one, 0, (1, [(2, 1)]))
        self.assertTrue(self.terms.asked(word="call", parts=["f", 3, self.number("a"), o, self.terms.nil()], kind="number") == one)
        with self.assertRaises(InvalidNumber):
            self.terms.atom(3)

    def test_unlike_ones(self):
        a, o = self.number("a"), self.thing("o")
        asked = [("get", "number", []), ("get", "object", []), ("put", "number", []), ("get", "number", [0]), ("get", "number", ["0"]), ("get", "number", [a]),
                 ("get", "number", [a, a]), ("get", "number", [o]), ("get", "number", [self.constant(0)]), ("get", "number", [self.terms.nil()]),
                 ("get", "number", ["a"]), ("get", "number", [self.made("add", a, 1)]), ("get", "number", [self.made("add", a, a)]), ("get", "number", [2]),
                 ("get", "number", [0, 2]), ("get", "number", ["object", 2])]
        terms = [self.terms.asked(*what) for what in asked]
        for k, one in enumerate(terms):
            self.assertEqual([one == other for other in terms], [k == j for j in range(len(terms))])
        self.assertEqual([self.terms.kind(term) for term in terms[:2]], ["number", "object"])
        self.assertEqual(self.terms.parts(terms[1]), 3)
        self.assertEqual(self.terms.atom(4), ("asked", "number", "put"))

    def test_the_list_is_not_kept(self):
        parts = [1]
        term = self.terms.asked("get", "object", parts)
        parts.append(2)
        self.assertEqual(self.terms.atom(self.terms.parts(term)), ("asked", "object", "get", 1))
        self.assertEqual(parts, [1, 2])


class TestSums(TermsCase):
    def test_wrong_ops(self):
        for op in [*odd_things(), "Add", "copy", "number", "", ("add",), ["add"]]:
            for one in (self.constant(1), self.terms.nil()):
                with self.assertRaises(InvalidArgument) as caught:
                    self.terms.made(op, one, one)
                self.assertEqual(caught.exception.part, "op")

    def test_arguments_by_name(self):
        self.is_term(self.terms.made(other=self.constant(2), op="sub", one=self.constant(7)), 5)

    def test_constants(self):
        for op, told in (("add", 10), ("sub", 4), ("times", 21), ("less", 0), ("same", 0)):
            self.is_term(self.made(op, 7, 3), told)
        for one, other in ((2, 3), (3, 3), (4, 3), (-1, 0), (0, -1)):
            self.is_term(self.made("less", one, other), int(one < other))
            self.is_term(self.made("same", one, other), int(one == other))
        with self.assertRaises(InvalidNumber):
            self.terms.atom(0)

    def test_alike_parts_are_put_together(self):
        a, b = self.number("a"), self.number("b")
        self.is_term(self.sum(a, b, a, 5, a, -2), 3, (3, [(0, 1)]), (1, [(1, 1)]))
        self.is_term(self.made("sub", self.sum(a, b), self.sum(b, a)), 0)
        self.is_term(self.made("sub", self.sum(a, 4), self.sum(b, a, 1)), 3, (-1, [(1, 1)]))
        self.assertTrue(self.made("sub", self.sum(a, b), a) == b)
        self.is_term(self.made("times", self.sum(a, b), 0), 0)
        self.is_term(self.made("times", self.sum(a, b, 1), -2), -2, (-2, [(0, 1)]), (-2, [(1, 1)]))

    def test_the_order_of_parts(self):
        a, b, c = self.number("a"), self.number("b"), self.number("c")
        terms = [c, self.made("times", b, c), b, self.power(a, 2), self.made("times", a, c), self.made("times", a, b), a,
                 self.made("times", self.power(a, 2), b), self.made("times", a, self.power(b, 2))]
        parts = [(1, [(0, 1)]), (1, [(0, 1), (1, 1)]), (1, [(0, 1), (1, 2)]), (1, [(0, 1), (2, 1)]), (1, [(0, 2)]), (1, [(0, 2), (1, 1)]), (1, [(1, 1)]),
                 (1, [(1, 1), (2, 1)]), (1, [(2, 1)])]
        self.is_term(self.sum(*terms), 0, *parts)
        self.is_term(self.sum(*reversed(terms)), 0, *parts)

    def test_products_are_multiplied_out(self):
        a, b = self.number("a"), self.number("b")
        self.is_term(self.made("times", self.sum(a, b), self.made("sub", a, b)), 0, (1, [(0, 2)]), (-1, [(1, 2)]))
        self.is_term(self.power(self.sum(a, 1), 3), 1, (3, [(0, 1)]), (3, [(0, 2)]), (1, [(0, 3)]))
        self.is_term(self.made("times", self.sum(a, 2), self.sum(b, 3)), 6, (3, [(0, 1)]), (1, [(0, 1), (1, 1)]), (2, [(1, 1)]))
        self.assertTrue(self.made("times", a, b) == self.made("times", b, a))

    def test_sums_have_no_bound(self):
        names = [self.number(f"n{k}") for k in range(100)]
        self.assertEqual(len(self.terms.parts(self.sum(*names))[1]), 100)
        great = self.constant(10 ** 100)
        self.is_term(self.made("add", great, great), 2 * 10 ** 100)
        self.is_term(self.made("sub", 0, great), -(10 ** 100))
        term = self.made("times", names[0], self.constant(DIGITS_60))
        self.is_term(self.sum(term, term), 0, (2 * DIGITS_60, [(0, 1)]))

    def test_equal_just_if_they_are_the_same_for_all_numbers(self):
        chance = random.Random(61)
        names = [self.number(name) for name in "abc"]
        points = list(itertools.product((-3, -1, 0, 2, 5), repeat=3))
        pool = [(term, lambda values, k=k: values[k]) for k, term in enumerate(names)]
        pool += [(self.constant(n), lambda values, n=n: n) for n in (-2, 0, 1)]
        for _ in range(300):
            op = chance.choice(OPS[:3])
            (one, told), (other, others) = chance.choice(pool), chance.choice(pool)
            if op == "times" and max(self.degree(one), self.degree(other)) > 2:
                continue
            reckon = {"add": int.__add__, "sub": int.__sub__, "times": int.__mul__}[op]
            pool.append((self.made(op, one, other), lambda values, f=told, g=others, h=reckon: h(f(values), g(values))))
        values = [tuple(told(point) for point in points) for _, told in pool]
        for (one, _), first in zip(pool, values):
            for (other, _), second in zip(pool, values):
                self.assertEqual(one == other, first == second)
            for point, number in zip(points, first):
                self.assertEqual(self.value(one, point), number)

    def degree(self, term):
        return max([sum(power for _, power in atoms) for _, atoms in self.terms.parts(term)[1]], default=0)

    def value(self, term, values):
        total, parts = self.terms.parts(term)
        for factor, atoms in parts:
            for atom, power in atoms:
                factor *= values[atom] ** power
            total += factor
        return total


class TestGreatProducts(TermsCase):
    def is_atom(self, product, one, other):
        told = self.only_atom(product)
        self.assertEqual(told[0], "times")
        self.assertTrue(told[1] == one and told[2] == other)

    def of_parts(self, many, first="n"):
        return self.sum(*[self.number(f"{first}{k}") for k in range(many)])

    def test_forty_parts(self):
        a = self.number("a")
        forty, more = self.of_parts(40), self.of_parts(41)
        self.assertEqual(len(self.terms.parts(self.made("times", a, forty))[1]), 40)
        self.is_atom(self.made("times", a, more), a, more)
        self.is_atom(self.made("times", more, a), a, more)
        self.assertEqual(len(self.terms.parts(self.made("times", forty, 3))[1]), 40)
        self.is_atom(self.made("times", more, 1), more, self.constant(1))
        self.is_term(self.made("times", more, 0), 0)
        self.assertTrue(self.made("times", a, more) == self.made("times", more, a))

    def test_forty_parts_of_a_product(self):
        five, eight = self.of_parts(5, "m"), self.of_parts(8, "n")
        self.assertEqual(len(self.terms.parts(self.made("times", five, eight))[1]), 40)
        eight_and_1 = self.sum(eight, 1)
        self.assertEqual(self.only_atom(self.made("times", five, eight_and_1))[0], "times")
        six = self.of_parts(6, "m")
        self.assertEqual(self.only_atom(self.made("times", six, eight))[0], "times")
        with_integer = self.made("times", self.sum(self.of_parts(4, "m"), 1), self.of_parts(8, "n"))
        self.assertEqual(len(self.terms.parts(with_integer)[1]), 40)

    def test_alike_parts_count_once(self):
        nine = self.of_parts(9)
        self.assertEqual(self.only_atom(self.made("times", nine, nine))[0], "times")
        eight = self.of_parts(8)
        self.assertEqual(len(self.terms.parts(self.made("times", eight, eight))[1]), 36)
        # (x - 1) (x ** 19 + .. + 1) has one part and an integer, though 40 products are made.
        x = self.number("x")
        long = self.sum(1, *[self.power(x, k) for k in range(1, 20)])
        number = self.terms.parts(x)[1][0][1][0][0]
        self.is_term(self.made("times", self.made("sub", x, 1), long), -1, (1, [(number, 20)]))

    def test_the_integer_is_no_part(self):
        forty = self.sum(self.of_parts(40), 5)
        self.is_term(self.made("sub", self.made("times", forty, 2), self.made("times", self.of_parts(40), 2)), 10)

    def test_powers(self):
        a, b = self.number("a"), self.number("b")
        self.is_term(self.power(a, 20), 0, (1, [(0, 20)]))
        self.is_atom(self.made("times", a, self.power(a, 20)), a, self.power(a, 20))
        self.is_atom(self.made("times", self.power(a, 11), self.power(a, 10)), self.power(a, 10), self.power(a, 11))
        self.is_term(self.made("times", self.power(a, 20), self.power(b, 20)), 0, (1, [(0, 20), (1, 20)]))
        one = self.made("times", self.power(a, 20), b)
        self.is_atom(self.made("times", one, self.sum(a, 1)), one, self.sum(a, 1))
        self.is_term(self.made("times", self.power(a, 20), 0), 0)

    def test_great_integers(self):
        a = self.number("a")
        for sign in (1, -1):
            self.is_term(self.made("times", sign * DIGITS_60, 1), sign * DIGITS_60)
            self.is_term(self.made("times", sign * 10 ** 30, 10 ** 29), sign * 10 ** 59)
            self.is_term(self.made("times", a, sign * DIGITS_60), 0, (sign * DIGITS_60, [(0, 1)]))
            factors = sorted([sign * 10 ** 30, 10 ** 30])
            self.is_atom(self.made("times", sign * 10 ** 30, 10 ** 30), self.constant(factors[0]), self.constant(factors[1]))
            self.is_atom(self.made("times", 10 ** 30, sign * 10 ** 30), self.constant(factors[0]), self.constant(factors[1]))
            great = self.made("times", a, sign * 10 ** 30)
            self.is_atom(self.made("times", 10 ** 30, great), great, self.constant(10 ** 30))
        self.is_atom(self.made("times", 10 ** 60, 1), self.constant(1), self.constant(10 ** 60))
        self.is_term(self.made("times", 10 ** 60, 0), 0)
        self.is_atom(self.made("times", self.sum(a, 10 ** 30), 10 ** 30), self.constant(10 ** 30), self.sum(a, 10 ** 30))

    def test_the_first_factor(self):
        a, b = self.number("a"), self.number("b")
        a20, b20 = self.power(a, 20), self.power(b, 20)
        more = self.of_parts(41)
        for one, other in ((self.sum(a20, -1), a20), (a20, self.sum(a, 1)), (self.made("sub", 0, a20), a), (a20, self.made("times", 2, a)),
                           (self.sum(a20, 3), self.sum(self.made("times", 2, a), 3)), (a, self.sum(a20, b20)), (a20, self.sum(a20, b)),
                           (more, self.made("times", 2, a)), (more, self.sum(more, 1)), (more, more)):
            first, second = sorted([one, other], key=lambda term: (self.terms.parts(term)[0], self.terms.parts(term)[1]))
            self.is_atom(self.made("times", one, other), first, second)
            self.is_atom(self.made("times", other, one), first, second)

    def test_atoms_of_products_are_atoms_like_others(self):
        a = self.number("a")
        product = self.made("times", a, self.power(a, 20))
        number = self.terms.parts(product)[1][0][1][0][0]
        self.is_term(self.made("times", product, product), 0, (1, [(number, 2)]))
        self.is_term(self.made("sub", self.sum(product, 1), product), 1)


class TestLess(TermsCase):
    def is_above(self, term, primitive, k):
        told = self.only_atom(term)
        self.assertEqual((told[0], told[2]), ("above", k))
        self.assertTrue(told[1] == primitive)

    def is_not_above(self, term, primitive, k):
        self.is_above(self.made("sub", 1, term), primitive, k)

    def test_plain_sums(self):
        i, n = self.number("i"), self.number("n")
        self.is_not_above(self.made("less", i, n), self.made("sub", i, n), -1)
        self.is_above(self.made("less", n, i), self.made("sub", i, n), 0)
        self.is_above(self.made("less", 0, i), i, 0)
        self.is_above(self.made("less", 5, i), i, 5)
        self.is_not_above(self.made("less", i, 5), i, 4)
        self.assertEqual(self.terms.parts(self.made("less", i, 5)), (1, [(-1, [(6, 1)])]))

    def test_factors(self):
        i = self.number("i")
        for g in (1, 2, 3, 7, -1, -2, -3, -7):
            for c in range(-15, 16):
                difference = self.sum(self.made("times", i, g), c)
                told = self.made("less", 0, difference)
                for value in range(-20, 21):
                    number, parts = self.terms.parts(told)
                    (factor, ((atom, power),)), = parts
                    word, primitive, k = self.terms.atom(atom)
                    self.assertEqual((word, power, self.terms.parts(primitive)), ("above", 1, (0, [(1, [(0, 1)])])))
                    self.assertEqual((number, factor), (0, 1) if g > 0 else (1, -1))
                    self.assertEqual(number + factor * int(value > k), int(g * value + c > 0), (g, c, value))

    def test_what_is_the_same_for_all_integers(self):
        i = self.number("i")
        twice = self.made("times", i, 2)
        self.assertTrue(self.made("less", 0, twice) == self.made("less", 0, i))
        self.assertTrue(self.made("less", 1, twice) == self.made("less", 0, i))
        self.assertTrue(self.made("less", 2, twice) == self.made("less", 1, i))
        self.assertTrue(self.made("less", twice, 3) == self.made("less", i, 2))
        self.assertTrue(self.made("less", i, 2) == self.made("sub", 1, self.made("less", 1, i)))

    def test_primitive_sums(self):
        a, b = self.number("a"), self.number("b")
        for one, other in ((6, -4), (-6, 4), (9, 6), (-9, -6), (5, 0), (0, -5)):
            difference = self.sum(self.made("times", a, one), self.made("times", b, other), 7)
            told = self.made("less", 0, difference)
            first = one if one else other
            divisor = __import__("math").gcd(one, other) * (1 if first > 0 else -1)
            primitive = self.sum(self.made("times", a, one // divisor), self.made("times", b, other // divisor))
            (self.is_above if divisor > 0 else self.is_not_above)(told, primitive, -7 // divisor if divisor > 0 else -(-7 // -divisor) - 1)

    def test_sums_without_parts(self):
        i = self.number("i")
        for c, told in ((-1, 1), (0, 0), (1, 0)):
            self.is_term(self.made("less", self.sum(i, c), i), told)

    def test_the_first_part_in_order_has_the_sign(self):
        a, b = self.number("a"), self.number("b")
        square = self.power(a, 2)
        told = self.made("less", 0, self.sum(self.made("sub", 0, square), a, b))
        self.is_above(told, self.sum(self.made("sub", 0, square), a, b), 0)
        told = self.made("less", 0, self.sum(square, self.made("sub", 0, a)))
        self.is_not_above(told, self.made("sub", a, square), -1)

    def test_great_numbers(self):
        i = self.number("i")
        self.is_above(self.made("less", 10 ** 100, i), i, 10 ** 100)
        self.is_not_above(self.made("less", i, -(10 ** 100)), i, -(10 ** 100) - 1)


class TestSame(TermsCase):
    def is_equal_atom(self, term, primitive, k):
        told = self.only_atom(term)
        self.assertEqual((told[0], told[2]), ("equal", k))
        self.assertTrue(told[1] == primitive)

    def test_numbers(self):
        i, n = self.number("i"), self.number("n")
        self.is_equal_atom(self.made("same", i, 5), i, 5)
        self.assertTrue(self.made("same", 5, i) == self.made("same", i, 5))
        self.is_equal_atom(self.made("same", i, n), self.made("sub", i, n), 0)
        self.is_equal_atom(self.made("same", n, i), self.made("sub", i, n), 0)
        self.is_equal_atom(self.made("same", self.sum(n, 3), i), self.made("sub", i, n), 3)
        self.is_term(self.made("same", i, i), 1)
        self.is_term(self.made("same", self.sum(i, 1), i), 0)

    def test_factors(self):
        i = self.number("i")
        for g in (1, 2, 3, -1, -2, -3):
            for c in range(-7, 8):
                told = self.made("same", self.made("times", i, g), -c)
                if c % g:
                    self.is_term(told, 0)
                else:
                    self.is_equal_atom(told, i, -c // g)
        a, b = self.number("a"), self.number("b")
        self.is_equal_atom(self.made("same", self.made("times", a, 4), self.sum(self.made("times", b, 6), 10)), self.made("sub", self.made("times", a, 2), self.made("times", b, 3)), 5)
        self.is_term(self.made("same", self.made("times", a, 4), self.sum(self.made("times", b, 6), 5)), 0)

    def test_objects(self):
        a, b, nil = self.thing("a"), self.thing("b"), self.terms.nil()
        self.is_term(self.made("same", a, a), 1)
        self.is_term(self.made("same", a, self.thing("a")), 1)
        self.is_term(self.made("same", nil, nil), 1)
        for one, other, first, second in ((a, b, a, b), (b, a, a, b), (nil, a, nil, a), (b, nil, nil, b)):
            told = self.only_atom(self.made("same", one, other))
            self.assertEqual(told[0], "alike")
            self.assertTrue(told[1] == first and told[2] == second)
        self.assertTrue(self.made("same", a, b) == self.made("same", b, a))
        self.assertFalse(self.made("same", a, b) == self.made("same", a, nil))

    def test_atoms_come_up_in_order(self):
        i, a = self.number("i"), self.thing("a")
        self.made("same", a, self.terms.nil())
        self.made("less", i, 0)
        self.made("same", i, 3)
        self.made("same", i, 3)
        self.made("same", i, i)
        self.terms.asked("call", "object", [])
        self.power(i, 21)
        words = []
        try:
            while True:
                words.append(self.terms.atom(len(words))[0])
        except InvalidNumber:
            pass
        self.assertEqual(words, ["unknown", "unknown", "alike", "above", "equal", "asked", "times"])

    def test_terms_made_of_such_atoms(self):
        i = self.number("i")
        less = self.made("less", 0, i)
        self.is_term(self.made("times", less, less), 0, (1, [(1, 2)]))
        told = self.only_atom(self.made("less", 0, less))
        self.assertEqual((told[0], told[2]), ("above", 0))
        self.assertTrue(told[1] == less)


if __name__ == "__main__":
    unittest.main()
