import copy
import unittest

from backframes.errors import InvalidSource
from backframes.source import Source
from tests.samples import (
    ALL, ALL_ROWS, BOX, CELL, EMPTY, MAKE, all_backs, all_source, at_path, function_source, numbers, objects,
    odd_things, paths_in, with_part,
)

RETURN = [("return", "a")]


def simple(name="f", params=(("a", "number"),), others=(), kind="number", rows=(("return", "a"),)):
    return (name, list(params), list(others), kind, list(rows))


class SourceCase(unittest.TestCase):
    def wrong(self, part, at, classes, functions):
        with self.assertRaises(InvalidSource) as caught:
            Source(classes, functions)
        self.assertEqual((caught.exception.part, caught.exception.at), (part, at))
        self.assertEqual(type(caught.exception.at), type(at))

    def wrong_classes(self, at, classes):
        self.wrong("classes", at, classes, [simple()])

    def wrong_functions(self, at, functions, classes=()):
        self.wrong("functions", at, list(classes), functions)

    def wrong_row(self, row, at=0):
        rows = [("see", "n")] * at + [row] + ALL_ROWS
        self.wrong("functions", (0, at), [CELL, BOX, EMPTY], [(*ALL[:4], rows), MAKE])

    def right_row(self, row):
        Source([CELL, BOX, EMPTY], [(*ALL[:4], [row] + ALL_ROWS), MAKE])


class TestParts(SourceCase):
    def test_it_tells_what_it_was_made_of(self):
        source = all_source()
        self.assertEqual(source.classes(), [CELL, BOX, EMPTY])
        self.assertEqual(source.functions(), [ALL, MAKE])

    def test_the_kinds_of_what_it_tells(self):
        name, fields = all_source().classes()[0]
        self.assertEqual((type(name), type(fields), type(fields[0])), (str, list, tuple))
        parts = all_source().functions()[0]
        self.assertEqual([type(part) for part in parts], [str, list, list, str, list])
        self.assertEqual([type(parts[1][0]), type(parts[2][0]), type(parts[4][0])], [tuple, tuple, tuple])
        self.assertEqual(type(parts[4][15][3]), list)
        self.assertEqual(type(all_source().functions()), list)

    def test_arguments_by_name(self):
        source = Source(functions=[simple()], classes=[BOX])
        self.assertEqual((source.classes(), source.functions()), ([BOX], [simple()]))

    def test_nothing_that_is_handed_in_is_kept(self):
        classes, functions = copy.deepcopy([CELL]), copy.deepcopy([ALL, MAKE])
        source = Source(classes, functions)
        classes[0][1].append(("more", "number"))
        classes.append(BOX)
        functions[0][1].clear()
        functions[0][2].clear()
        functions[0][4][15][3].append("n")
        functions[0][4].clear()
        functions.clear()
        self.assertEqual((source.classes(), source.functions()), ([CELL], [ALL, MAKE]))

    def test_nothing_that_is_returned_is_kept(self):
        source = all_source()
        source.classes()[0][1].clear()
        source.classes().clear()
        told = source.functions()
        told[0][1].clear()
        told[0][2].clear()
        told[0][4][15][3].clear()
        told[0][4].clear()
        told.clear()
        self.assertEqual((source.classes(), source.functions()), ([CELL, BOX, EMPTY], [ALL, MAKE]))

    def test_arguments_are_not_changed(self):
        classes, functions = copy.deepcopy([CELL, BOX, EMPTY]), copy.deepcopy([ALL, MAKE])
        Source(classes, functions)
        self.assertEqual((classes, functions), ([CELL, BOX, EMPTY], [ALL, MAKE]))


class TestEquality(SourceCase):
    def test_equal_sources(self):
        self.assertTrue(all_source() == all_source())
        self.assertFalse(all_source() != all_source())

    def test_unlike_sources(self):
        first = Source([BOX, EMPTY], [simple("f"), simple("g")])
        others = [
            Source([EMPTY, BOX], [simple("f"), simple("g")]),
            Source([BOX], [simple("f"), simple("g")]),
            Source([BOX, EMPTY], [simple("g"), simple("f")]),
            Source([BOX, EMPTY], [simple("f")]),
            Source([BOX, EMPTY], [simple("f"), simple("g", rows=[("see", "a"), *RETURN])]),
            Source([BOX, EMPTY], [simple("f"), simple("g", others=numbers("b"))]),
            Source([BOX, EMPTY], [simple("f"), simple("g", params=numbers("b", "a"))]),
            Source([BOX, EMPTY], [simple("f"), simple("g", params=objects("a"), kind="object")]),
        ]
        for other in others:
            self.assertFalse(first == other)
            self.assertTrue(first != other)

    def test_it_is_equal_to_nothing_else(self):
        source = all_source()
        for thing in [None, 0, "source", [], source.functions(), all_backs(), all_backs().code]:
            self.assertFalse(source == thing)
            self.assertFalse(thing == source)


class TestClasses(SourceCase):
    def test_edges_that_are_right(self):
        six = [(f"c{k}", []) for k in range(6)]
        four = [("wide", numbers("a", "b") + objects("c", "d"))]
        named = [("a", [("a", "number")]), ("abcdefg8", [("z2345678", "object")])]
        for classes in ([], six, four, named):
            self.assertEqual(Source(classes, [simple()]).classes(), classes)

    def test_how_many(self):
        self.wrong_classes(-1, [(f"c{k}", []) for k in range(7)])
        self.wrong_classes(0, [("wide", numbers("a", "b", "c", "d", "e"))])

    def test_names(self):
        for name in ("", "a23456789", "1a", "A", "aB", "a_b", "a b", "a-", "\xe9", "a\n", "_a", "\u0663", "a\u0663"):
            self.wrong_classes(0, [(name, [])])
            self.wrong_classes(0, [("c", [(name, "number")])])

    def test_kinds(self):
        for kind in ("", "Number", "numbers", "int", "numberobject"):
            self.wrong_classes(0, [("c", [("f", kind)])])

    def test_two_of_a_name(self):
        self.wrong_classes(2, [BOX, CELL, BOX])
        self.wrong_classes(1, [BOX, ("cell", [("f", "number"), ("f", "number")])])

    def test_a_field_has_one_kind(self):
        self.wrong_classes(2, [BOX, CELL, ("more", [("item", "object")])])
        self.wrong_classes(1, [CELL, ("more", [("new", "number"), ("next", "number")])])
        Source([BOX, CELL, ("more", [("item", "number")])], [simple()])

    def test_the_first_class_is_told(self):
        self.wrong_classes(1, [BOX, None, BOX])
        self.wrong_classes(1, [BOX, BOX, None])

    def test_names_of_classes_fields_functions_and_variables_may_be_the_same(self):
        Source([("a", [("a", "number")])], [simple("a")])

    def test_forms(self):
        for entry in (["c", []], ("c",), ("c", [], []), ("c", ()), ("c", [["f", "number"]]), ("c", [("f",)]),
                      ("c", [("f", "number", 1)]), ("c", {"f": "number"}), ("c", None), "c", ()):
            self.wrong_classes(0, [entry])
        for classes in ((), (BOX,), {}, None, "", 0):
            self.wrong_classes(-1, classes)


class TestHeads(SourceCase):
    def test_edges_that_are_right(self):
        six = [simple(f"f{k}") for k in range(6)]
        bare = [("g", [], [], "object", [("jump", 0)])]
        wide = [simple(params=numbers("a", "b") + objects("c", "d"), others=numbers("e", "f", "g", "h", "i", "j", "k", "l"))]
        long = [simple(rows=[("see", "a")] * 39 + RETURN)]
        named = [simple("abcdefg8", params=numbers("x", "a", "z2345678"))]
        for functions in (six, bare, wide, long, named):
            self.assertEqual(Source([], functions).functions(), functions)

    def test_how_many(self):
        self.wrong_functions(-1, [])
        self.wrong_functions(-1, [simple(f"f{k}") for k in range(7)])
        self.wrong_functions((0,), [simple(params=numbers("a", "b", "c", "d", "e"))])
        self.wrong_functions((0,), [simple(others=numbers("b", "c", "d", "e", "f", "g", "h", "i", "j"))])
        self.wrong_functions((0,), [simple(rows=[])])
        self.wrong_functions((0,), [simple(rows=[("see", "a")] * 40 + RETURN)])

    def test_names(self):
        for name in ("", "a23456789", "1a", "A", "a_b", "\xe9"):
            self.wrong_functions((0,), [simple(name)])
            self.wrong_functions((0,), [simple(params=[("a", "number"), (name, "number")])])
            self.wrong_functions((0,), [simple(others=[(name, "number")])])

    def test_kinds(self):
        for kind in ("", "Number", "cell", None, 1):
            self.wrong_functions((0,), [simple(kind=kind)])
            self.wrong_functions((0,), [simple(others=[("b", kind)])])

    def test_two_of_a_name(self):
        self.wrong_functions((2,), [simple("f"), simple("g"), simple("f")])
        self.wrong_functions((0,), [simple(params=numbers("a", "a"))])
        self.wrong_functions((0,), [simple(others=numbers("b", "b"))])
        self.wrong_functions((0,), [simple(others=numbers("b", "a"))])

    def test_forms(self):
        good = simple()
        for entry in (list(good), good[:4], (*good, 1), (good[0], tuple(good[1]), *good[2:]), "f", None,
                      (*good[:2], (), *good[3:]), (*good[:4], tuple(good[4])), (*good[:1], [["a", "number"]], *good[2:])):
            self.wrong_functions((0,), [entry])
        for functions in ((good,), {}, None, "f", 1):
            self.wrong_functions(-1, functions)


class TestRows(SourceCase):
    def test_each_form_is_right(self):
        for row in ALL_ROWS:
            self.right_row(row)
        self.assertEqual(all_source().functions()[0][4], ALL_ROWS)

    def test_integers(self):
        for number in (0, 10 ** 9, -(10 ** 9)):
            self.right_row(("number", "m", number))
        for number in (10 ** 9 + 1, -(10 ** 9) - 1, True, False, None, 1.0, "1", (1,)):
            self.wrong_row(("number", "m", number))

    def test_variables_are_those_of_the_function(self):
        for row in ALL_ROWS:
            for at in range(1, len(row)):
                if isinstance(row[at], str) and row[at] in ("m", "n", "o", "p") and row[0] != "new":
                    self.wrong_row((*row[:at], "c", *row[at + 1:]))
        self.wrong_row(("call", "m", "all", ["n", "c"]))

    def test_kinds_of_each_form(self):
        for word in ("add", "sub", "times", "less"):
            for names in (("p", "n", "n"), ("m", "o", "n"), ("m", "n", "o"), ("p", "o", "o")):
                self.wrong_row((word, *names))
        wrong = [
            ("number", "p", 1), ("nil", "m"), ("new", "m", "cell"), ("copy", "m", "o"), ("copy", "p", "n"),
            ("same", "p", "n", "n"), ("same", "p", "o", "o"), ("same", "m", "n", "o"), ("same", "m", "o", "n"),
            ("get", "m", "n", "item"), ("get", "p", "o", "item"), ("get", "m", "o", "next"),
            ("put", "n", "item", "n"), ("put", "o", "item", "p"), ("put", "o", "next", "n"),
            ("call", "p", "all", ["n", "o"]), ("call", "m", "make", []), ("if", "o", 0), ("return", "o"),
        ]
        for row in wrong:
            self.wrong_row(row)
            self.wrong_row(row, at=3)

    def test_what_is_called_has_the_parameters(self):
        for arguments in ([], ["n"], ["n", "o", "n"], ["o", "n"], ["n", "n"], ("n", "o"), None, "no", ["n", None]):
            self.wrong_row(("call", "m", "all", arguments))
        self.wrong_row(("call", "p", "make", ["n"]))
        self.wrong_row(("call", "m", "other", ["n", "o"]))

    def test_classes_and_fields(self):
        self.right_row(("new", "p", "empty"))
        self.wrong_row(("new", "p", "item"))
        self.wrong_row(("get", "m", "o", "cell"))
        self.wrong_row(("put", "o", "cell", "m"))

    def test_goals_are_rows_of_the_function(self):
        many = len(ALL_ROWS) + 1
        for goal in (0, 1, many - 1):
            self.right_row(("if", "m", goal))
            self.right_row(("jump", goal))
        for goal in (-1, many, 39, 40, True, False, None, 0.0, "0"):
            self.wrong_row(("if", "m", goal))
            self.wrong_row(("jump", goal))

    def test_lengths_and_words(self):
        for row in ALL_ROWS:
            self.wrong_row(row[:-1])
            self.wrong_row((*row, "n"))
            self.wrong_row(list(row))
        for row in ((), ("",), ("guard", "n", 0), ("look", 0), ("go", 1, []), ("Add", "m", "n", "n"), "jump", None,
                    (b"jump", 0), (1, 2), (None,), ([],), (["jump"], 0)):
            self.wrong_row(row)

    def test_the_last_row_is_a_jump_or_a_return(self):
        for row in ALL_ROWS[:-2]:
            rows = ALL_ROWS + [row]
            self.wrong("functions", (0, len(ALL_ROWS)), [CELL, BOX, EMPTY], [(*ALL[:4], rows), MAKE])
        for row in ALL_ROWS[-2:]:
            Source([CELL, BOX, EMPTY], [(*ALL[:4], ALL_ROWS + [row]), MAKE])
        self.wrong_functions((0, 0), [simple(rows=[("see", "a")])])

    def test_functions_may_call_one_another_and_themselves(self):
        one = ("one", numbers("a"), [], "number", [("call", "a", "two", ["a"]), ("return", "a")])
        two = ("two", numbers("a"), [], "number", [("call", "a", "one", ["a"]), ("call", "a", "two", ["a"]), *RETURN])
        self.assertEqual(Source([], [one, two]).functions(), [one, two])

    def test_no_class_has_a_field(self):
        self.wrong("functions", (0, 0), [EMPTY], [simple(params=objects("a"), kind="object",
                                                         rows=[("get", "a", "a", "item"), *RETURN])])


class TestWhichIsFirst(SourceCase):
    def test_classes_are_ahead_of_functions(self):
        self.wrong("classes", -1, None, None)
        self.wrong("classes", 0, [None], None)
        self.wrong("functions", -1, [], None)

    def test_heads_are_ahead_of_rows(self):
        bad = simple("f", rows=[None, ("return", "a")])
        self.wrong_functions((1,), [bad, simple("f")])
        self.wrong_functions((1,), [bad, simple("g", kind="x")])
        self.wrong_functions((1,), [bad, simple("g", rows=[])])
        self.wrong_functions((0, 0), [bad, simple("g", rows=[None])])

    def test_rows_are_told_function_by_function(self):
        self.wrong_functions((0, 1), [simple("f", rows=[("see", "a"), None, None, *RETURN]), simple("g", rows=[None])])
        self.wrong_functions((1, 0), [simple("f"), simple("g", rows=[None, ("see", "a")])])

    def test_the_last_form_is_told_behind_all_other_rows_of_the_function(self):
        self.wrong_functions((0, 0), [simple("f", rows=[("see", "b"), ("see", "a")])])
        self.wrong_functions((0, 1), [simple("f", rows=[("see", "a"), ("see", "a")]), simple("g", rows=[None])])


class TestOddThings(SourceCase):
    def place_in_functions(self, path, thing=None):
        # All odd lists have one entry: what is wrong about them may be this one.
        if isinstance(thing, list):
            path = (*path, 0)
        if not path:
            return -1
        return (path[0], path[2]) if len(path) > 2 and path[1] == 4 else (path[0],)

    def test_anything_in_the_place_of_any_part_of_a_class(self):
        classes = [CELL, BOX, EMPTY]
        for path in paths_in(classes):
            for thing in odd_things():
                at = path[0] if path else 0 if isinstance(thing, list) else -1
                self.wrong("classes", at, with_part(classes, path, thing), [ALL, MAKE])

    def test_anything_in_the_place_of_any_part_of_a_function(self):
        functions = [(*ALL[:4], ALL_ROWS[15:]), MAKE]
        functions[0][4][4] = ("if", "m", 0)
        functions[0][4][5] = ("jump", 6)
        functions[0][4].insert(0, ("number", "m", 5))
        Source([CELL], functions)
        for path in paths_in(functions):
            for thing in odd_things():
                at = self.place_in_functions(path, thing)
                self.wrong("functions", at, [CELL], with_part(functions, path, thing))

    def test_an_empty_list_in_the_place_of_any_part(self):
        for path in paths_in([ALL, MAKE]):
            old = at_path([ALL, MAKE], path)
            if path and not (isinstance(old, list) and path[1:] not in ((4,),)):
                self.wrong("functions", self.place_in_functions(path), [CELL, BOX, EMPTY], with_part([ALL, MAKE], path, []))


class TestExample(SourceCase):
    def test_a_source_with_a_class(self):
        rows = [("new", "b", "cell"), ("put", "b", "item", "a"), ("get", "a", "b", "item"), ("return", "a")]
        source = function_source(rows, numbers("a"), objects("b"))
        self.assertEqual(source.functions(), [("f", numbers("a"), objects("b"), "number", rows)])


if __name__ == "__main__":
    unittest.main()
