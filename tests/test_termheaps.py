import unittest

from backframes.errors import InvalidArgument
from backframes.facts import Facts
from backframes.termheaps import TermHeap
from backframes.terms import Terms
from tests.samples import function_source, numbers, odd_things


def heap_source():
    more = ("make", [], [("c", "object")], "object", [("nil", "c"), ("return", "c")])
    return function_source([("return", "a")], numbers("a"), more=[more])


class HeapCase(unittest.TestCase):
    def setUp(self):
        self.terms = Terms()
        self.facts = Facts(self.terms)
        self.heap = TermHeap(self.terms, self.facts, heap_source(), "code")
        self.nil = self.terms.nil()

    def number(self, name):
        return self.terms.unknown(name, "number")

    def thing(self, name):
        return self.terms.unknown(name, "object")

    def constant(self, n):
        return self.terms.constant(n)

    def cell(self, **fields):
        return self.heap.new_object("cell", fields)

    def out(self, event, number):
        """The term of an object that got out: it is the atom ("out", event, number)."""
        return self.term_of(("out", event, number))

    def term_of(self, told):
        at = 0
        while self.terms.atom(at) != told:
            at += 1
        return self.terms.asked("get", "object", []).__class__(at)

    def told(self, term):
        """A term as something that can be read: an integer, the tuple of an atom, or nil as None."""
        parts = self.terms.parts(term)
        if self.terms.kind(term) == "number":
            if not parts[1]:
                return parts[0]
            return self.atom_of(parts[1][0][1][0][0]) if parts[0] == 0 and len(parts[1]) == 1 else parts
        return None if parts is None else self.atom_of(parts)

    def atom_of(self, number):
        return tuple(part if isinstance(part, (str, int)) else self.told(part) for part in self.terms.atom(number))

    def read(self, thing):
        """Events as something that can be read."""
        if isinstance(thing, (list, tuple)):
            parts = [self.read(part) for part in thing]
            return tuple(parts) if isinstance(thing, tuple) else parts
        return thing if thing is None or isinstance(thing, str) else self.told(thing)

    def events(self):
        return self.read(self.heap.events())


A, X, O, P = ("unknown", "number", "a"), ("unknown", "number", "x"), ("unknown", "object", "o"), ("unknown", "object", "p")


class TestKnownObjects(HeapCase):
    def test_new_objects(self):
        one, other = self.cell(item=self.number("x")), self.heap.new_object("box", {})
        self.assertEqual([self.told(one), self.told(other)], [("born", "code", 0), ("born", "code", 1)])
        self.assertEqual(self.read(self.heap.content(one)[1]["item"]), X)
        title, fields = self.heap.content(one)
        self.assertEqual((title, [(field, self.told(fields[field])) for field in fields]), ("cell", [("item", X), ("next", None)]))
        self.assertEqual((self.heap.content(other)[0], self.told(self.heap.content(other)[1]["item"])), ("box", 0))
        self.assertEqual(self.heap.content(self.heap.new_object("empty", {})), ("empty", {}))
        self.assertEqual(self.heap.events(), [])

    def test_arguments_by_name(self):
        heap = TermHeap(name="n", source=heap_source(), facts=self.facts, terms=self.terms)
        one = heap.new_object(fields={}, title="cell")
        heap.put(value=self.constant(3), field="item", term=one)
        self.assertEqual(self.told(heap.get(field="item", term=one)), 3)
        self.assertTrue(heap.now(term=one) == one)
        self.assertEqual([heap.status(term=one), heap.content(term=one)[0], heap.like(other=one, one=one)], ["known", "cell", "same"])
        self.assertEqual(self.told(heap.same(other=one, one=one)), 1)
        heap.see(term=one)
        heap.called(values=[], function="make")
        heap.leave(values=[])
        self.assertEqual([event[0] for event in heap.events()], ["see", "call", "leave"])

    def test_no_class(self):
        for thing in [*odd_things(), "Cell", "item", "f"]:
            with self.assertRaises(InvalidArgument) as caught:
                self.heap.new_object(thing, {})
            self.assertEqual(caught.exception.part, "class")
        self.assertEqual(self.told(self.cell()), ("born", "code", 0))

    def test_status(self):
        one, asked = self.cell(), self.terms.asked("get", "object", [])
        self.assertEqual([self.heap.status(term) for term in (self.nil, one, self.thing("o"), asked)], ["nil", "known", "old", "old"])
        self.heap.leave([one])
        self.assertEqual([self.heap.status(one), self.heap.status(self.heap.now(one))], ["out", "out"])
        self.assertEqual([self.heap.content(one), self.heap.content(self.nil), self.heap.content(asked)], [None, None, None])
        self.facts.assume(self.terms.made("same", asked, self.nil), False)
        self.assertEqual([self.heap.status(asked), self.heap.now(asked) == self.nil], ["nil", True])

    def test_objects_of_another_heap_are_old(self):
        other = TermHeap(self.terms, self.facts, heap_source(), "source")
        self.assertEqual([self.heap.status(other.new_object("cell", {})), self.heap.status(self.cell())], ["old", "known"])

    def test_reading_and_writing(self):
        one = self.cell(next=self.thing("o"))
        self.heap.put(one, "item", self.number("x"))
        self.heap.put(one, "next", one)
        self.assertEqual([self.told(self.heap.get(one, "item")), self.told(self.heap.get(one, "next"))], [X, ("born", "code", 0)])
        box = self.heap.new_object("box", {})
        self.heap.put(box, "next", one)
        self.assertEqual([self.told(self.heap.get(box, "next")), self.told(self.heap.get(box, "item"))], [None, 0])
        self.assertEqual([self.told(self.heap.get(self.nil, "item")), self.told(self.heap.get(self.nil, "next"))], [0, None])
        self.heap.put(self.nil, "item", self.constant(3))
        self.assertEqual(self.heap.events(), [])

    def test_what_is_known_is_put_in(self):
        one = self.cell(item=self.terms.made("add", self.number("x"), self.number("a")), next=self.thing("o"))
        self.facts.assume(self.number("x"), True)
        self.facts.assume(self.terms.made("same", self.thing("o"), self.nil), False)
        self.assertEqual([self.told(self.heap.get(one, "item")), self.told(self.heap.get(one, "next"))], [A, None])
        fields = self.heap.content(one)[1]
        self.assertEqual([self.told(fields["item"]), self.told(fields["next"])], [A, None])

    def test_what_is_handed_in_and_told_may_be_changed(self):
        fields = {"item": self.constant(1)}
        one = self.heap.new_object("cell", fields)
        fields["item"] = self.constant(2)
        self.heap.content(one)[1]["item"] = self.constant(3)
        self.assertEqual(self.told(self.heap.get(one, "item")), 1)
        values = [one]
        self.heap.leave(values)
        values.append(self.nil)
        self.heap.events()[0][1].clear()
        self.heap.events()[0][2][0][1].clear()
        self.heap.events().clear()
        self.assertEqual(self.events(), [("leave", [("out", 0, 0)], [("cell", [1, None])])])


class TestEvents(HeapCase):
    def test_seen(self):
        one = self.cell()
        for term in (self.number("x"), self.thing("o"), one, self.nil):
            self.heap.see(term)
        self.heap.leave([one])
        self.heap.see(one)
        self.assertIsNone(self.heap.events()[3][1])
        told = [("see", X), ("see", O), ("see", "cell"), ("see", None), ("leave", [("out", 4, 0)], [("cell", [0, None])]), ("see", "cell")]
        self.assertEqual(self.events(), told)

    def test_events_tell_what_was_known_then(self):
        self.heap.see(self.number("x"))
        self.heap.see(self.thing("o"))
        self.facts.assume(self.number("x"), True)
        self.facts.assume(self.terms.made("same", self.thing("o"), self.nil), False)
        self.heap.see(self.number("x"))
        self.heap.see(self.thing("o"))
        self.assertEqual(self.events(), [("see", X), ("see", O), ("see", 0), ("see", None)])

    def test_a_put_to_an_old_object(self):
        inner = self.cell(item=self.constant(7))
        one = self.cell(next=inner)
        self.heap.put(self.thing("o"), "next", one)
        outs = [("cell", [0, ("out", 0, 1)]), ("cell", [7, None])]
        self.assertEqual(self.events(), [("put", O, "next", ("out", 0, 0), outs)])
        self.assertEqual([self.told(self.heap.now(one)), self.told(self.heap.now(inner))], [("out", 0, 0), ("out", 0, 1)])
        self.heap.put(one, "item", self.constant(1))
        self.assertEqual(self.events()[1:], [("put", ("out", 0, 0), "item", 1, [])])
        self.heap.put(one, "item", self.number("x"))
        self.assertEqual(len(self.heap.events()), 3)

    def test_a_put_to_a_class_without_the_field(self):
        box = self.heap.new_object("box", {})
        self.heap.leave([box])
        one = self.cell()
        self.heap.put(box, "next", one)
        self.assertEqual([len(self.heap.events()), self.heap.status(one)], [1, "known"])
        self.heap.put(box, "item", self.constant(1))
        self.assertEqual(len(self.heap.events()), 2)

    def test_the_order_of_what_gets_out(self):
        third, fourth = self.heap.new_object("box", {"item": self.constant(3)}), self.heap.new_object("box", {"item": self.constant(4)})
        second = self.cell(item=self.constant(2), next=third)
        first = self.cell(item=self.constant(1), next=second)
        stays = self.cell(next=first)
        result = self.heap.called("make", [fourth, self.number("x"), first, third])
        self.assertEqual(self.told(result), ("asked", "object", "call", "make", 0))
        names = [("out", 0, k) for k in range(4)]
        outs = [("box", [4]), ("cell", [1, names[2]]), ("cell", [2, names[3]]), ("box", [3])]
        self.assertEqual(self.events(), [("call", "make", [names[0], X, names[1], names[3]], outs)])
        self.assertEqual([self.heap.status(stays), self.told(self.heap.content(stays)[1]["next"])], ["known", names[1]])

    def test_each_time_at_once_to_the_end(self):
        """Fields are gone through in their order, and what the first one leads to gets out ahead of the second one."""
        source = function_source([("return", "a")], numbers("a"))
        pair = [("pair", [("l", "object"), ("r", "object")])]
        heap = TermHeap(self.terms, self.facts, type(source)(pair, [("f", [], numbers("a"), "number", [("return", "a")])]), "code")
        leaves = [heap.new_object("pair", {}) for _ in range(4)]
        left = heap.new_object("pair", {"l": leaves[0], "r": leaves[1]})
        right = heap.new_object("pair", {"l": leaves[2], "r": leaves[3]})
        top = heap.new_object("pair", {"l": left, "r": right})
        heap.leave([top])
        numbered = [self.told(heap.now(term))[2] for term in (top, left, leaves[0], leaves[1], right, leaves[2], leaves[3])]
        self.assertEqual(numbered, [0, 1, 2, 3, 4, 5, 6])

    def test_rings(self):
        one, other = self.cell(), self.cell()
        self.heap.put(one, "next", other)
        self.heap.put(other, "next", one)
        self.heap.put(self.thing("o"), "next", other)
        outs = [("cell", [0, ("out", 0, 1)]), ("cell", [0, ("out", 0, 0)])]
        self.assertEqual(self.events(), [("put", O, "next", ("out", 0, 0), outs)])

    def test_long_rows_of_objects(self):
        last = self.nil
        for _ in range(3000):
            last = self.cell(next=last)
        self.heap.leave([last])
        self.assertEqual(len(self.heap.events()[0][2]), 3000)
        self.assertEqual(self.told(self.heap.now(last)), ("out", 0, 0))

    def test_objects_within_atoms_get_out_too(self):
        one = self.cell()
        asked = self.terms.asked("get", "number", [one])
        self.heap.leave([one, asked])
        self.assertEqual(self.events()[0][1], [("out", 0, 0), ("asked", "number", "get", ("out", 0, 0))])
        self.assertEqual(self.told(self.heap.now(asked)), ("asked", "number", "get", ("out", 0, 0)))

    def test_results_of_calls(self):
        self.heap.see(self.nil)
        self.assertEqual(self.told(self.heap.called("f", [])), ("asked", "number", "call", "f", 1))
        self.assertEqual(self.told(self.heap.called("make", [self.nil] * 3)), ("asked", "object", "call", "make", 2))
        self.assertEqual(self.events()[1:], [("call", "f", [], []), ("call", "make", [None] * 3, [])])


class TestReading(HeapCase):
    def asked(self, kind, *parts):
        return ("asked", kind, "get", *parts)

    def get(self, term, field="item"):
        return self.told(self.heap.get(term, field))

    def test_old_objects(self):
        self.assertEqual(self.get(self.thing("o")), self.asked("number", O, "item", 0))
        self.assertEqual(self.get(self.thing("o"), "next"), self.asked("object", O, "next", 0))
        self.heap.called("f", [])
        self.assertEqual(self.get(self.thing("o")), self.asked("number", O, "item", 1))

    def test_what_was_written_to_an_old_object(self):
        self.heap.put(self.thing("o"), "item", self.number("x"))
        self.assertEqual(self.get(self.thing("o")), self.asked("number", O, "item", 0, O, X))
        self.assertEqual(self.get(self.thing("p")), self.asked("number", P, "item", 0, O, X))
        self.assertEqual(self.get(self.thing("p"), "next"), self.asked("object", P, "next", 0))
        self.heap.put(self.thing("p"), "item", self.number("a"))
        self.assertEqual(self.get(self.thing("o")), self.asked("number", O, "item", 0, P, A, O, X))
        self.heap.called("f", [])
        self.assertEqual(self.get(self.thing("o")), self.asked("number", O, "item", 1))

    def test_unlike_objects_are_passed_over(self):
        o, p = self.thing("o"), self.thing("p")
        self.heap.put(o, "item", self.number("x"))
        self.heap.put(p, "item", self.number("a"))
        self.facts.assume(self.terms.made("same", o, p), True)
        self.assertEqual(self.get(o), self.asked("number", O, "item", 0, O, X))
        self.assertEqual(self.get(p), self.asked("number", P, "item", 0, P, A, O, X))

    def test_all_are_passed_over(self):
        self.heap.put(self.thing("o"), "item", self.number("x"))
        self.facts.assume(self.terms.made("same", self.thing("o"), self.thing("p")), True)
        self.assertEqual(self.get(self.thing("p")), self.asked("number", P, "item", 0))

    def test_objects_that_are_out(self):
        one = self.cell(item=self.constant(5), next=self.thing("p"))
        self.heap.put(self.thing("o"), "next", one)
        self.assertEqual([self.get(one), self.get(one, "next")], [5, P])
        self.heap.put(one, "item", self.number("x"))
        self.assertEqual(self.get(one), X)
        self.heap.put(self.thing("p"), "item", self.number("a"))
        self.assertEqual(self.get(one), X)

    def test_an_object_that_is_out_and_an_old_one(self):
        one = self.cell(item=self.constant(5))
        self.heap.put(self.thing("o"), "next", one)
        got = self.heap.get(self.thing("o"), "next")
        out = ("out", 0, 0)
        # The writing of the put itself comes behind the fields of what got out with it.
        inner = self.asked("object", O, "next", 0, O, out, out, None)
        self.assertEqual(self.told(got), inner)
        self.assertEqual(self.get(got), self.asked("number", inner, "item", 0, out, 5))
        self.heap.put(got, "item", self.number("x"))
        self.assertEqual(self.get(one), self.asked("number", out, "item", 0, inner, X, out, 5))
        self.facts.assume(self.terms.made("same", got, self.heap.now(one)), False)
        self.assertEqual(self.heap.like(got, one), "same")
        self.assertEqual([self.get(one), self.get(got)], [X, self.asked("number", inner, "item", 0, inner, X, out, 5)])

    def test_fields_of_several_that_got_out(self):
        inner = self.cell(item=self.constant(2))
        outer = self.cell(item=self.constant(1), next=inner)
        self.heap.leave([outer])
        self.assertEqual([self.get(outer), self.get(inner), self.get(outer, "next")], [1, 2, ("out", 0, 1)])
        asked = self.terms.asked("get", "object", [])
        self.assertEqual(self.get(asked), self.asked("number", ("asked", "object", "get"), "item", 0, ("out", 0, 1), 2, ("out", 0, 0), 1))

    def test_a_call_may_write_to_all_that_is_out(self):
        one, other = self.cell(item=self.constant(5)), self.cell(item=self.constant(6))
        self.heap.leave([one])
        self.heap.called("f", [other])
        self.assertEqual(self.get(one), self.asked("number", ("out", 0, 0), "item", 1))
        self.assertEqual(self.get(other), self.asked("number", ("out", 1, 0), "item", 1))
        self.heap.put(one, "item", self.number("x"))
        self.assertEqual(self.get(one), X)

    def test_known_objects_stay_as_they_are(self):
        one = self.cell(item=self.constant(5))
        self.heap.called("f", [])
        self.heap.put(self.thing("o"), "item", self.number("x"))
        self.assertEqual(self.get(one), 5)

    def test_out_objects_without_the_field(self):
        box = self.heap.new_object("box", {})
        self.heap.leave([box])
        self.assertEqual(self.get(box, "next"), None)

    def test_what_is_known_of_what_is_read(self):
        asked = self.heap.get(self.thing("o"), "item")
        self.facts.assume(self.terms.made("sub", asked, self.constant(3)), True)
        self.assertEqual(self.get(self.thing("o")), 3)


class TestLike(HeapCase):
    def test_known_and_out(self):
        one, other, out = self.cell(), self.cell(), self.cell()
        self.heap.leave([out])
        old, asked = self.thing("o"), self.terms.asked("get", "object", [])
        pairs = [(one, one, "same"), (one, other, "unlike"), (one, out, "unlike"), (out, out, "same"), (one, self.nil, "unlike"), (one, old, "unlike"),
                 (one, asked, "unlike"), (out, self.nil, "unlike"), (out, old, "unlike"), (out, asked, "open"), (old, asked, "open"), (old, self.nil, "open"),
                 (self.nil, self.nil, "same"), (old, old, "same")]
        for first, second, word in pairs:
            self.assertEqual([self.heap.like(first, second), self.heap.like(second, first)], [word, word])
            told = self.heap.same(first, second)
            self.assertTrue(told == self.heap.same(second, first))
            if word == "open":
                self.assertEqual(self.terms.atom(self.terms.parts(told)[1][0][1][0][0])[0], "alike")
            else:
                self.assertEqual(self.told(told), int(word == "same"))

    def test_two_that_got_out(self):
        one, other = self.cell(), self.cell()
        self.heap.leave([one, other])
        self.assertEqual(self.heap.like(one, other), "unlike")
        self.assertTrue(self.heap.now(one) == self.out(0, 0))
        self.assertEqual(self.heap.like(self.out(0, 1), other), "same")

    def test_what_was_returned_ahead(self):
        one = self.cell()
        ahead = self.heap.get(self.thing("o"), "next")
        called = self.heap.called("make", [])
        self.heap.leave([one])
        behind = self.heap.get(self.thing("p"), "next")
        later = self.heap.called("make", [])
        self.assertEqual([self.heap.like(term, one) for term in (ahead, called, behind, later)], ["unlike", "unlike", "open", "open"])
        self.assertEqual(self.told(self.heap.same(one, ahead)), 0)

    def test_it_counts_when_it_was_returned_first(self):
        one = self.cell()
        ahead = self.heap.get(self.thing("o"), "next")
        self.heap.leave([one])
        self.assertTrue(self.heap.get(self.thing("o"), "next") == ahead)
        self.assertEqual(self.heap.like(ahead, one), "unlike")

    def test_a_result_may_be_what_was_handed_in(self):
        one = self.cell()
        result = self.heap.called("make", [one])
        self.assertEqual(self.heap.like(one, result), "open")
        other = self.cell()
        self.heap.leave([other])
        self.assertEqual(self.heap.like(other, result), "unlike")

    def test_a_put_and_what_was_returned_just_ahead_of_it(self):
        one = self.cell()
        got = self.heap.get(self.thing("o"), "next")
        self.heap.put(got, "next", one)
        self.assertEqual(self.heap.like(got, one), "unlike")
        self.assertEqual(self.heap.like(self.heap.get(got, "next"), one), "open")

    def test_one_that_is_called_so_by_now(self):
        one, x = self.cell(), self.number("x")
        asked = self.terms.asked("get", "object", [self.thing("o"), "next", 0])
        self.heap.put(self.cell(), "item", x)
        self.heap.see(self.nil)
        got = self.heap.called("make", [])
        self.heap.leave([one])
        self.assertEqual([self.heap.like(asked, one), self.heap.like(got, one)], ["open", "unlike"])
        inner = self.terms.unknown("i", "object")
        first = self.heap.get(inner, "next")
        other = self.cell()
        self.heap.leave([other])
        self.facts.assume(self.terms.made("same", inner, self.nil), False)
        renamed = self.heap.now(first)
        self.assertFalse(renamed == first)
        self.assertEqual([self.heap.like(renamed, other), self.heap.like(renamed, one)], ["unlike", "open"])

    def test_what_the_facts_know(self):
        o, p = self.thing("o"), self.thing("p")
        self.facts.assume(self.terms.made("same", o, p), False)
        self.assertEqual([self.heap.like(o, p), self.told(self.heap.same(o, p))], ["same", 1])
        self.facts.assume(self.terms.made("same", p, self.nil), True)
        self.assertEqual([self.heap.like(self.nil, p), self.told(self.heap.same(p, self.nil))], ["unlike", 0])


class TestTwins(HeapCase):
    def test_they_go_on_by_themselves(self):
        one, other = self.cell(), self.cell()
        self.heap.put(self.thing("o"), "item", self.number("x"))
        twin = self.heap.twin()
        self.heap.put(one, "item", self.constant(1))
        twin.put(one, "item", self.constant(2))
        self.heap.leave([other])
        twin.see(other)
        self.assertEqual([self.told(heap.get(one, "item")) for heap in (self.heap, twin)], [1, 2])
        self.assertEqual([heap.status(other) for heap in (self.heap, twin)], ["out", "known"])
        self.assertEqual([[event[0] for event in heap.events()] for heap in (self.heap, twin)], [["put", "leave"], ["put", "see"]])
        self.assertTrue(self.heap.new_object("cell", {}) == twin.new_object("cell", {}))

    def test_a_twin_knows_what_got_out(self):
        one, ahead = self.cell(item=self.constant(5)), self.heap.get(self.thing("o"), "next")
        self.heap.leave([one])
        self.heap.called("f", [])
        twin = self.heap.twin()
        self.assertEqual([twin.status(one), twin.like(ahead, one)], ["out", "unlike"])
        self.assertEqual(self.told(twin.get(one, "item")), ("asked", "number", "get", ("out", 0, 0), "item", 1))
        self.assertEqual(self.read(twin.events()), self.events())

    def test_a_twin_knows_what_was_written(self):
        one = self.cell(item=self.constant(5))
        self.heap.leave([one])
        self.heap.put(self.thing("o"), "item", self.number("x"))
        twin = self.heap.twin()
        twin.put(self.thing("p"), "item", self.constant(3))
        self.heap.put(self.thing("p"), "item", self.constant(4))
        written = [O, X, ("out", 0, 0), 5]
        told = [self.told(heap.get(self.thing("o"), "item")) for heap in (self.heap, twin)]
        self.assertEqual(told, [("asked", "number", "get", O, "item", 0, P, value, *written) for value in (4, 3)])
        self.assertEqual(self.told(twin.get(one, "item")), 5)

    def test_they_have_the_same_facts(self):
        twin = self.heap.twin()
        self.facts.assume(self.number("x"), True)
        self.assertEqual(self.told(twin.now(self.number("x"))), 0)


if __name__ == "__main__":
    unittest.main()
