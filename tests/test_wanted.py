import random
import unittest

from backframes.errors import InvalidArgument, InvalidNumber, InvalidSource
from backframes.machine import Machine, finished, going_on, State
from backframes.source import Source
from backframes.wanted import wanted, wanted_at_call, wanting
from tests.samples import ALL_ROWS, all_source, function_source, numbers, objects, odd_things

EXAMPLE = [("add", "c", "a", "a"), ("call", "a", "f", ["c", "b"]), ("if", "a", 4), ("jump", 0), ("return", "b")]


def example():
    return Source([], [("f", numbers("a", "b"), numbers("c"), "number", EXAMPLE)])


SETTING = ("number", "nil", "copy", "add", "sub", "times", "less", "same", "new", "get", "call")


def sets(row):
    return row[1] if row[0] in SETTING else None


def reads(row):
    """What a row reads, by the words of the document: all its variables but the one that it sets."""
    if row[0] == "call":
        return row[3]
    if row[0] == "put":
        return [row[1], row[3]]
    if row[0] == "get":
        return [row[2]]
    if row[0] in ("see", "if", "return"):
        return [row[1]]
    if row[0] in ("number", "nil", "new", "jump"):
        return []
    return list(row[2:])


def goals(rows, row):
    word = rows[row][0]
    if word == "return":
        return []
    if word == "jump":
        return [rows[row][1]]
    return [row + 1, rows[row][2]] if word == "if" else [row + 1]


def all_ways(rows, way, variable):
    """All lists of rows without a row twice that end with one that reads the variable."""
    here = rows[way[-1]]
    found = [way] if variable in reads(here) else []
    if sets(here) != variable:
        for goal in goals(rows, way[-1]):
            if goal not in way:
                found.extend(all_ways(rows, [*way, goal], variable))
    return found


class TestExample(unittest.TestCase):
    def test_the_example_of_the_document(self):
        source = example()
        told = [wanted(source, "f", row) for row in range(5)]
        self.assertEqual(told, [["a", "b"], ["b", "c"], ["a", "b"], ["a", "b"], ["b"]])
        told = [wanted_at_call(source, "f", 1), wanting(source, "f", 1, "b"), wanting(source, "f", 0, "c")]
        self.assertEqual([*told, wanting(source, "f", 2, "b")], [["b"], [1], None, [2, 4]])


class TestRows(unittest.TestCase):
    def test_what_each_form_sets_and_reads(self):
        for row in ALL_ROWS[:-2]:
            if row[0] == "if":
                continue
            rows = [row, ("put", "o", "item", "n"), ("put", "p", "item", "m"), ("return", "n")]
            functions = all_source().functions()
            source = Source(all_source().classes(), [("f", *functions[0][1:4], rows), *functions])
            expected = sorted({*"mnop"} - {sets(row)} | set(reads(row)))
            self.assertEqual(wanted(source, "f", 0), expected, row)

    def test_if_jump_and_return(self):
        rows = [("if", "a", 3), ("see", "b"), ("jump", 4), ("see", "c"), ("return", "d")]
        source = function_source(rows, numbers("a", "b", "c", "d"), numbers("e"))
        told = [wanted(source, "f", row) for row in range(5)]
        self.assertEqual(told, [["a", "b", "c", "d"], ["b", "d"], ["d"], ["c", "d"], ["d"]])
        self.assertEqual(wanting(source, "f", 0, "d"), [0, 3, 4])
        self.assertEqual(wanting(source, "f", 0, "a"), [0])
        self.assertIsNone(wanting(source, "f", 0, "e"))
        self.assertEqual(wanting(source, "f", 0, "b"), [0, 1])

    def test_nothing_is_wanted_on_a_circle_that_reads_nothing(self):
        source = function_source([("jump", 0), ("return", "a")], numbers("a"))
        self.assertEqual([wanted(source, "f", 0), wanted(source, "f", 1)], [[], ["a"]])
        self.assertIsNone(wanting(source, "f", 0, "a"))

    def test_a_row_that_sets_what_it_reads(self):
        source = function_source([("add", "a", "a", "b"), ("return", "a")], numbers("a", "b"))
        self.assertEqual(wanted(source, "f", 0), ["a", "b"])
        self.assertEqual(wanting(source, "f", 0, "a"), [0])

    def test_back_in_a_loop(self):
        rows = [("see", "a"), ("number", "a", 1), ("if", "b", 0), ("return", "b")]
        source = function_source(rows, numbers("a", "b"))
        self.assertEqual([wanted(source, "f", row) for row in range(4)], [["a", "b"], ["b"], ["a", "b"], ["b"]])
        self.assertEqual(wanting(source, "f", 2, "a"), [2, 0])
        rows = [("see", "a"), ("see", "b"), ("jump", 0)]
        self.assertEqual(wanting(function_source(rows, numbers("a", "b")), "f", 1, "a"), [1, 2, 0])

    def test_of_lists_of_one_length_the_first(self):
        rows = [("if", "a", 3), ("if", "a", 4), ("return", "b"), ("jump", 1), ("jump", 5), ("see", "c"), ("return", "b")]
        source = function_source(rows, numbers("a", "b", "c"))
        self.assertEqual(wanting(source, "f", 0, "b"), [0, 1, 2])
        self.assertEqual(wanting(source, "f", 0, "c"), [0, 1, 4, 5])
        rows = [("jump", 4), ("see", "c"), ("jump", 5), ("jump", 1), ("if", "a", 1), ("see", "c"), ("return", "b")]
        source = function_source(rows, numbers("a", "b", "c"))
        self.assertEqual(wanting(source, "f", 0, "c"), [0, 4, 1])
        self.assertEqual(wanting(source, "f", 4, "c"), [4, 1])

    def test_if_that_goes_to_the_next_row(self):
        source = function_source([("if", "a", 1), ("return", "b")], numbers("a", "b"))
        self.assertEqual(wanting(source, "f", 0, "b"), [0, 1])

    def test_at_calls(self):
        rows = [("call", "a", "f", ["b", "a"]), ("call", "b", "f", ["b", "b"]), ("see", "a"), ("see", "c"), ("return", "b")]
        source = function_source(rows, numbers("a", "b"), numbers("c", "d"))
        self.assertEqual([wanted_at_call(source, "f", 0), wanted_at_call(source, "f", 1)], [["b", "c"], ["a", "c"]])
        self.assertEqual([wanted(source, "f", 0), wanted(source, "f", 1)], [["a", "b", "c"], ["a", "b", "c"]])

    def test_what_is_returned_is_new(self):
        source = example()
        wanted(source, "f", 0).clear()
        wanted_at_call(source, "f", 1).clear()
        wanting(source, "f", 2, "b").clear()
        self.test_names_of_arguments()

    def test_names_of_arguments(self):
        source = example()
        self.assertEqual(wanted(row=0, name="f", source=source), ["a", "b"])
        self.assertEqual(wanted_at_call(row=1, name="f", source=source), ["b"])
        self.assertEqual(wanting(variable="b", row=2, name="f", source=source), [2, 4])

    def test_other_functions_do_not_matter(self):
        g = ("g", numbers("a"), numbers("b"), "number", [("call", "b", "f", ["b"]), ("return", "a")])
        source = function_source([("call", "a", "g", ["a"]), ("return", "a")], numbers("a"), more=[g])
        self.assertEqual([wanted(source, "f", 0), wanted(source, "g", 0), wanted(source, "g", 1)], [["a"], ["a", "b"], ["a"]])
        self.assertEqual([wanted_at_call(source, "f", 0), wanted_at_call(source, "g", 0)], [[], ["a"]])


class TestWrong(unittest.TestCase):
    def wrong(self, error, attributes, ask, *arguments):
        with self.assertRaises(error) as caught:
            ask(*arguments)
        for name, value in attributes.items():
            self.assertIs(getattr(caught.exception, name), value)

    def asks(self):
        return [wanted, wanted_at_call, lambda source, name, row: wanting(source, name, row, None)]

    def test_no_source(self):
        for ask in self.asks():
            for thing in odd_things():
                if not isinstance(thing, Source):
                    self.wrong(InvalidSource, {"at": None}, ask, thing, None, None)
            with self.assertRaises(InvalidSource) as caught:
                ask(None, None, None)
            self.assertEqual(caught.exception.part, "source")

    def test_no_name(self):
        for ask in self.asks():
            for thing in [*odd_things(), "g", "a", ["f"]]:
                with self.assertRaises(InvalidArgument) as caught:
                    ask(example(), thing, None)
                self.assertEqual(caught.exception.part, "name")

    def test_no_row(self):
        for ask in self.asks():
            for thing in [*odd_things(), -1, 5, 40, "0", [0]]:
                self.wrong(InvalidNumber, {"number": thing}, ask, example(), "f", thing)

    def test_no_call(self):
        for row in (0, 2, 3, 4):
            self.wrong(InvalidNumber, {"number": row}, wanted_at_call, example(), "f", row)

    def test_no_variable(self):
        for thing in [*odd_things(), "d", "f", ["a"]]:
            with self.assertRaises(InvalidArgument) as caught:
                wanting(example(), "f", 0, thing)
            self.assertEqual(caught.exception.part, "variable")


class TestRandom(unittest.TestCase):
    """Functions of random rows, seen against all their ways."""

    def rows(self, chance):
        many = chance.randint(2, 9)
        rows = []
        for k in range(many - 1):
            a, b, c = (chance.choice("abcd") for _ in range(3))
            forms = [("add", a, b, c), ("number", a, 1), ("see", a), ("if", a, chance.randrange(many)), ("copy", a, b)]
            forms += [("jump", chance.randrange(many)), ("call", a, "f", [b, c]), ("if", b, chance.randrange(many)), ("return", a)]
            rows.append(chance.choice(forms))
        return rows + [chance.choice([("return", chance.choice("abcd")), ("jump", chance.randrange(many))])]

    def test_against_all_ways(self):
        chance = random.Random(18)
        for _ in range(400):
            rows = self.rows(chance)
            source = function_source(rows, numbers("a", "b"), numbers("d", "c"))
            table = []
            for row in range(len(rows)):
                found = {name: all_ways(rows, [row], name) for name in "abcd"}
                table.append([name for name in "abcd" if found[name]])
                self.assertEqual(wanted(source, "f", row), table[-1])
                for name in "abcd":
                    best = min(found[name], key=lambda way: (len(way), way), default=None)
                    self.assertEqual(wanting(source, "f", row, name), best)
            for row, parts in enumerate(rows):
                if parts[0] == "call":
                    self.assertEqual(wanted_at_call(source, "f", row), [name for name in table[row + 1] if name != parts[1]])

    def test_what_is_not_wanted_changes_nothing(self):
        rows = [("add", "c", "a", "b"), ("see", "c"), ("number", "b", 2), ("if", "a", 6), ("sub", "a", "a", "b"), ("jump", 3), ("return", "c")]
        source = function_source(rows, numbers("a", "b"), numbers("c"))
        machine = Machine(source, "f", [4, 1])
        while machine.ended() is None:
            (name, row, held), = machine.frames()
            expected = finished(going_on(machine.state()))
            for other in set("abc") - set(wanted(source, "f", row)):
                changed = State(source, [(name, row, {**held, other: 77})], {})
                self.assertEqual(finished(going_on(changed)), expected)
            machine.step()


class TestObjects(unittest.TestCase):
    def test_objects_are_wanted_as_numbers_are(self):
        rows = [("get", "p", "o", "next"), ("put", "p", "next", "o"), ("new", "o", "cell"), ("return", "o")]
        source = function_source(rows, objects("o"), objects("p"), "object")
        self.assertEqual([wanted(source, "f", row) for row in range(4)], [["o"], ["o", "p"], [], ["o"]])


if __name__ == "__main__":
    unittest.main()
