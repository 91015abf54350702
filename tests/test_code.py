import copy
import itertools
import random
import unittest

from backframes.code import Code
from backframes.errors import InvalidCode, InvalidNumber, InvalidSource
from backframes.source import Source
from tests.samples import (
    ALL_BLOCKS, BOX, MAKE, all_backs, all_code, all_source, at_path, function_source, numbers, objects,
    odd_things, paths_in, with_part,
)

SOURCE = function_source([("return", "a")], numbers("a"))


def block(rows=(), end=("return", "a"), params=()):
    return (list(params), list(rows), end)


def first(rows=(), end=("return", "a")):
    return block(rows, end, numbers("a"))


def looks(start, many):
    return [("look", start + k) for k in range(many)]


class CodeCase(unittest.TestCase):
    def wrong(self, part, at, blocks, source=SOURCE, function="f"):
        with self.assertRaises(InvalidCode) as caught:
            Code(source, function, blocks)
        self.assertEqual((caught.exception.part, caught.exception.at), (part, at))
        self.assertEqual(type(caught.exception.at), type(at))

    def right(self, blocks, source=SOURCE, function="f"):
        code = Code(source, function, blocks)
        self.assertEqual(code.blocks(), blocks)
        return code


class TestParts(CodeCase):
    def test_it_tells_what_it_was_made_of(self):
        source = all_source()
        code = Code(source, "all", copy.deepcopy(ALL_BLOCKS))
        self.assertIs(code.source, source)
        self.assertEqual((code.owner(), code.blocks()), ("all", ALL_BLOCKS))

    def test_the_kinds_of_what_it_tells(self):
        blocks = all_code().blocks()
        self.assertEqual([type(blocks), type(blocks[0])], [list, tuple])
        self.assertEqual([type(part) for part in blocks[0]], [list, list, tuple])
        self.assertEqual([type(blocks[0][0][0]), type(blocks[0][1][0])], [tuple, tuple])
        self.assertEqual(type(blocks[2][1][0][3]), list)
        self.assertEqual(type(blocks[0][2][2]), list)
        self.assertEqual([type(part) for part in blocks[1][2]], [str, str, tuple, tuple])
        self.assertEqual([type(goal[1]) for goal in blocks[1][2][2:]], [list, list])

    def test_arguments_by_name(self):
        code = Code(blocks=[first()], function="f", source=SOURCE)
        self.assertEqual((code.owner(), code.blocks()), ("f", [first()]))
        code = all_code()
        self.assertEqual((code.place(point=2), code.usable(point=7)), (code.place(2), code.usable(7)))

    def test_nothing_that_is_handed_in_is_kept(self):
        blocks = copy.deepcopy(ALL_BLOCKS)
        code = Code(all_source(), "all", blocks)
        blocks[0][0].clear()
        blocks[0][2][2].clear()
        blocks[1][2][2][1].clear()
        blocks[1][2][3][1].append("z")
        blocks[2][1][0][3].clear()
        blocks[2][1].clear()
        blocks.clear()
        self.assertEqual(code.blocks(), ALL_BLOCKS)

    def test_nothing_that_is_returned_is_kept(self):
        code = all_code()
        told = code.blocks()
        told[0][0].clear()
        told[0][2][2].clear()
        told[1][2][2][1].clear()
        told[1][2][3][1].append("z")
        told[2][1][0][3].clear()
        told[2][1].clear()
        told.clear()
        code.points().clear()
        code.kinds().clear()
        code.usable(7).clear()
        self.assertEqual(code.blocks(), ALL_BLOCKS)
        self.assertEqual((code.points(), len(code.kinds()), code.usable(7)[0]), ([2, 7], 18, "a"))

    def test_arguments_are_not_changed(self):
        blocks = copy.deepcopy(ALL_BLOCKS)
        Code(all_source(), "all", blocks)
        self.assertEqual(blocks, ALL_BLOCKS)

    def test_points_and_places(self):
        code = all_code()
        self.assertEqual(code.points(), [2, 7])
        self.assertEqual([code.place(2), code.place(7)], [(2, 4), (1, 0)])
        self.assertEqual(Code(SOURCE, "f", [first()]).points(), [])
        code = Code(SOURCE, "f", [first([("look", 99), ("guard", "a", 0), ("look", 20), ("look", 3)])])
        self.assertEqual(code.points(), [0, 3, 20, 99])
        self.assertEqual([code.place(point) for point in code.points()], [(0, 1), (0, 3), (0, 2), (0, 0)])

    def test_kinds(self):
        kinds = {name: "number" for name in "anstdleuigjk"}
        kinds.update({name: "object" for name in "bzcxho"})
        self.assertEqual(all_code().kinds(), kinds)

    def test_usable(self):
        code = all_code()
        self.assertEqual(code.usable(7), sorted("absndtlzceuix"))
        self.assertEqual(code.usable(2), sorted("absndtlzceuixghjko"))
        code = Code(SOURCE, "f", [first([("number", "z", 1), ("look", 0), ("number", "b", 1), ("look", 1)])])
        self.assertEqual([code.usable(0), code.usable(1)], [["a", "z"], ["a", "b", "z"]])

    def test_no_such_point(self):
        code = all_code()
        for point in [0, 1, 3, 100, -1, "2", (2,), [2], 2.0, *odd_things()]:
            for ask in (code.place, code.usable):
                with self.assertRaises(InvalidNumber) as caught:
                    ask(point)
                self.assertIs(caught.exception.number, point)
        one = Code(SOURCE, "f", [first([("look", 1), ("look", 0)])])
        for point in (True, False):
            with self.assertRaises(InvalidNumber):
                one.place(point)


class TestEquality(CodeCase):
    def test_equal_code(self):
        self.assertTrue(all_code() == all_code())
        self.assertFalse(all_code() != all_code())

    def test_unlike_code(self):
        two = [("f", numbers("a"), [], "number", [("return", "a")]), ("g", numbers("a"), [], "number", [("return", "a")])]
        source = Source([], two)
        code = Code(source, "f", [first()])
        self.assertTrue(code == Code(Source([], two), "f", [first()]))
        others = [
            Code(source, "g", [first()]),
            Code(Source([BOX], two), "f", [first()]),
            Code(source, "f", [first([("see", "a")])]),
            Code(source, "f", [block(end=("return", "b"), params=numbers("b"))]),
            Code(source, "f", [first(end=("go", 1, [])), block()]),
        ]
        for other in others:
            self.assertFalse(code == other)
            self.assertTrue(code != other)

    def test_goals_count(self):
        one = [first(end=("if", "a", (1, []), (2, []))), block(), block()]
        other = [first(end=("if", "a", (2, []), (1, []))), block(), block()]
        self.assertFalse(self.right(one) == self.right(other))

    def test_it_is_equal_to_nothing_else(self):
        code = all_code()
        for thing in [None, 0, [], code.blocks(), code.source, all_backs()]:
            self.assertFalse(code == thing)
            self.assertFalse(thing == code)


class TestEdges(CodeCase):
    def test_blocks(self):
        self.right([first()])
        row = [first(end=("go", 1, []))] + [block(end=("go", k + 1, [])) for k in range(1, 11)] + [block()]
        self.assertEqual(len(row), 12)
        self.right(row)
        self.wrong("blocks", -1, [])
        self.wrong("blocks", -1, [first()] + [block()] * 12)
        for blocks in ((first(),), {}, None, "", 1):
            self.wrong("blocks", -1, blocks)

    def test_rows_of_a_block(self):
        self.right([first([("see", "a")] * 20)])
        self.wrong("blocks", (0,), [first([("see", "a")] * 21)])
        self.wrong("blocks", (1,), [first(end=("go", 1, [])), block([("see", "a")] * 21)])

    def test_rows_in_all(self):
        full = [("see", "a")] * 20
        blocks = [first(full, ("go", 1, [])), block(full, ("go", 2, [])), block(full, ("go", 3, []))]
        self.right([*blocks, block()])
        self.wrong("rows", None, [*blocks, block([("see", "a")])])

    def test_points(self):
        self.right([first(looks(0, 12))])
        self.wrong("points", None, [first(looks(0, 13))])
        self.wrong("points", None, [first(looks(0, 7), ("go", 1, [])), block(looks(50, 6))])
        for point in (0, 99):
            self.right([first([("look", point)])])
            self.right([first([("guard", "a", point)])])
        for point in (-1, 100, True, False, None, 1.0, "1"):
            self.wrong("blocks", (0, 0), [first([("look", point)])])
            self.wrong("blocks", (0, 0), [first([("guard", "a", point)])])

    def test_parameters(self):
        wide = function_source([("return", "a")], numbers("a", "b", "c", "d"))
        self.right([([("p", "number"), ("a", "number"), ("q", "number"), ("b", "number")], [], ("return", "q"))], wide)
        none = function_source([("return", "a")], [], numbers("a"))
        self.right([([], [("number", "r", 1)], ("return", "r"))], none)
        goes = first(end=("go", 1, ["a", "a", "a", "a"]))
        self.right([goes, block(params=numbers("b", "c", "d", "e"))])
        self.wrong("blocks", (1,), [goes, block(params=numbers("b", "c", "d", "e", "g"))])
        self.wrong("blocks", (1,), [goes, block(params=numbers("b", "b"))])

    def test_names(self):
        for name in ("b", "abcdefg8", "z2345678"):
            self.right([first([("number", name, 1)])])
            self.right([first(end=("go", 1, ["a"])), block(params=numbers(name))])
        for name in ("", "a23456789", "1a", "A", "a_b", "\xe9", None, 1, True, b"a", ["b"], ("b",)):
            self.wrong("blocks", (0, 0), [first([("number", name, 1)])])
            self.wrong("blocks", (0, 0), [first([("see", name)])])
            self.wrong("blocks", (1,), [first(end=("go", 1, ["a"])), block(params=[(name, "number")])])
            self.wrong("blocks", (0, 0), [first(end=("return", name))])
            self.wrong("blocks", (0, 0), [first(end=("go", 1, [name])), block(params=numbers("b"))])

    def test_integers(self):
        for number in (0, 10 ** 9, -(10 ** 9)):
            self.right([first([("number", "b", number)])])
        for number in (10 ** 9 + 1, -(10 ** 9) - 1, True, False, None, 1.0):
            self.wrong("blocks", (0, 0), [first([("number", "b", number)])])

    def test_the_first_block_has_the_parameters_of_the_function(self):
        source = function_source([("return", "a")], [("a", "number"), ("b", "object")])
        self.right([([("x", "number"), ("a", "object")], [], ("return", "x"))], source)
        for params in ([], numbers("a"), objects("b") + numbers("a"), numbers("a", "b"), numbers("a") + objects("b", "c")):
            self.wrong("blocks", (0,), [(params, [], ("return", "a"))], source)
        self.wrong("blocks", (0,), [([], [], ("return", "a"))])

    def test_one_beyond_stands_behind_what_is_told_ahead(self):
        self.wrong("blocks", (0,), [first([("see", "a")] * 21), None])
        self.wrong("blocks", (0, 19), [first([("see", "a")] * 19 + [None])])


class TestSource(CodeCase):
    def test_no_source(self):
        for thing in odd_things():
            if not isinstance(thing, Source):
                with self.assertRaises(InvalidSource) as caught:
                    Code(thing, None, None)
                self.assertEqual((caught.exception.part, caught.exception.at), ("source", None))

    def test_no_function(self):
        for thing in [*odd_things(), "g", "a", "cell", ["f"]]:
            self.wrong("function", None, None, function=thing)

    def test_any_function_can_be_the_owner(self):
        code = Code(all_source(), "make", [([], [("new", "c", "box")], ("return", "c"))])
        self.assertEqual(code.owner(), "make")


class TestForms(CodeCase):
    def test_each_form_of_a_row_by_itself(self):
        rows = [row for _, rows, _ in ALL_BLOCKS for row in rows]
        for row in rows:
            for odd in (row[:-1], (*row, "q"), list(row), row[0], (row[0].upper(), *row[1:]), (row[0].encode(), *row[1:])):
                self.wrong("blocks", (0, 1), [(ALL_BLOCKS[0][0], [("see", "a"), odd], ("return", "a"))], all_source(), "all")

    def test_rows_of_a_source_that_code_does_not_have(self):
        for row in (("copy", "b", "a"), ("if", "a", 0), ("jump", 0), ("return", "a"), ("go", 1, []), (), None, 1, ("",)):
            self.wrong("blocks", (0, 0), [first([row])])

    def test_classes_fields_and_functions(self):
        blocks = copy.deepcopy(ALL_BLOCKS)
        for path, wrong in (((0, 1, 6, 2), "item"), ((1, 1, 1, 3), "cell"), ((1, 1, 3, 2), "n"), ((2, 1, 0, 2), "cell")):
            self.wrong("blocks", (path[0], path[2]), with_part(blocks, path, wrong), all_source(), "all")

    def test_ends(self):
        goods = [("go", 1, []), ("if", "a", (1, []), (1, [])), ("return", "a")]
        for end in goods[:2]:
            self.right([first(end=end), block()])
        for end in goods:
            for odd in (end[:-1], (*end, []), list(end), (end[0].upper(), *end[1:])):
                self.wrong("blocks", (0, 0), [first(end=odd)])
        for odd in (None, (), 1, "return", ("see", "a"), ("guard", "a", 1), ("jump", 0), ("go", (1, [])), ("go", 1, ()),
                    ("if", "a", [1, []], (1, [])), ("if", "a", (1, []), [1, []]), ("if", "a", (1,), (1, [])),
                    ("if", "a", (1, []), (1, [], [])), ("if", "a", 1, 1), ("if", "a", (1, ()), (1, []))):
            self.wrong("blocks", (0, 2), [first([("see", "a")] * 2, odd)])

    def test_numbers_of_goals_by_themselves(self):
        for goal in (0, -1, 12, True, False, None, 1.0, "1"):
            self.wrong("blocks", (0, 0), [first(end=("go", goal, [])), None])
            self.wrong("blocks", (0, 0), [first(end=("if", "a", (goal, []), (1, []))), None])
            self.wrong("blocks", (0, 0), [first(end=("if", "a", (1, []), (goal, []))), None])
        for goal in (1, 11):
            self.wrong("blocks", (1,), [first(end=("go", goal, [])), None])
            self.wrong("blocks", (1,), [first(end=("if", "a", (goal, []), (goal, []))), None])

    def test_by_itself_names_may_stand_for_anything(self):
        rows = [("add", "b", "zz", "zz"), ("call", "c", "f", ["zz"] * 9), ("see", "zz"), ("get", "d", "a", "item")]
        end = ("if", "zz", (11, ["zz"] * 9), (1, []))
        self.wrong("blocks", (1,), [first(rows, end), None])
        self.wrong("blocks", (1, 0), [first(rows, end), block([None])])
        self.wrong("blocks", (1, 0), [first([("call", "c", "f", [])], ("return", "zz")), block(end=None)])

    def test_what_is_made_twice(self):
        self.wrong("blocks", (0, 1), [first([("number", "b", 1), ("number", "b", 1)])])
        self.wrong("blocks", (0, 0), [first([("number", "a", 1)])])
        self.wrong("blocks", (1, 0), [first([("number", "b", 1)], ("go", 1, [])), block([("number", "b", 1)])])
        self.wrong("blocks", (1,), [first([("number", "b", 1)], ("go", 1, ["a"])), block(params=numbers("b"))])
        self.wrong("blocks", (1,), [first(end=("go", 1, ["a"])), block(params=numbers("a"))])
        self.wrong("blocks", (1, 1), [first(end=("go", 1, ["a"])), block([("look", 1), ("number", "b", 1)], params=numbers("b"))])
        for row in (("nil", "a"), ("new", "a", "cell"), ("get", "a", "b", "item"), ("call", "a", "f", ["a"]),
                    ("same", "a", "a", "a"), ("less", "a", "a", "a")):
            self.wrong("blocks", (0, 0), [first([row])])

    def test_points_that_stand_twice(self):
        self.wrong("blocks", (0, 1), [first([("look", 1), ("look", 1)])])
        self.wrong("blocks", (0, 2), [first([("look", 1), ("look", 2), ("guard", "a", 1)])])
        self.wrong("blocks", (1, 0), [first([("guard", "a", 5)], ("go", 1, [])), block([("look", 5)])])

    def test_block_forms(self):
        good = first()
        for odd in (list(good), good[:2], (*good, []), (tuple(good[0]), *good[1:]), (good[0], (), good[2]), None, "a", (),
                    ([["a", "number"]], [], good[2]), ([("a",)], [], good[2]), ([("a", "number", 1)], [], good[2]),
                    ([("a", "Number")], [], good[2]), ({}, [], good[2]), (good[0], {}, good[2]), (good[0], None, good[2])):
            self.wrong("blocks", (0,), [odd])


class TestWaysThroughBlocks(CodeCase):
    def test_goals_are_blocks_of_the_code(self):
        self.right([first(end=("go", 1, [])), block()])
        self.wrong("blocks", (0, 0), [first(end=("go", 2, [])), block()])
        self.wrong("blocks", (0, 1), [first([("see", "a")], ("if", "a", (1, []), (2, []))), block()])
        self.wrong("blocks", (0, 1), [first([("see", "a")], ("if", "a", (2, []), (1, []))), block()])

    def test_goals_give_as_many_registers_as_there_are_parameters(self):
        for given in ([], ["a", "a"]):
            self.wrong("blocks", (0, 0), [first(end=("go", 1, given)), block(params=numbers("b"))])
        self.wrong("blocks", (1, 1), [first(end=("go", 1, [])), block([("look", 0)], ("if", "a", (1, []), (1, ["a"])))])

    def test_blocks_that_are_not_reached(self):
        self.wrong("blocks", (1,), [first(), block()])
        self.wrong("blocks", (2,), [first(end=("go", 1, [])), block(), block(end=("go", 3, [])), block()])
        self.wrong("blocks", (1,), [first(end=("go", 2, [])), block([("look", 0)], ("go", 1, [])), block()])

    def test_registers_that_are_not_made_on_every_way(self):
        self.wrong("blocks", (0, 0), [first([("see", "b")])])
        self.wrong("blocks", (0, 0), [first([("add", "b", "a", "b")])])
        self.wrong("blocks", (0, 0), [first([("see", "b"), ("number", "b", 1)])])
        self.wrong("blocks", (0, 1), [first([("see", "a"), ("see", "b"), ("number", "b", 1), ("see", "b"), ("see", "a")])])
        self.wrong("blocks", (0, 0), [first(end=("return", "b"))])
        self.wrong("blocks", (0, 0), [first([], ("if", "b", (1, []), (1, []))), block()])
        self.wrong("blocks", (0, 0), [first(end=("go", 1, ["b"])), block(params=numbers("b"))])
        for goal in (2, 3):
            ends = [("if", "a", (1, []), (2, [])), ("go", 3, []), ("go", 3, []), ("return", "b")]
            rows = [[], [], [], []]
            rows[goal - 1] = [("number", "b", 1)]
            self.wrong("blocks", (3, 0), [first(rows[0], ends[0])] + [block(rows[k], ends[k]) for k in (1, 2, 3)])

    def test_registers_of_blocks_that_stand_above(self):
        ends = [("if", "a", (1, []), (2, [])), ("go", 3, []), ("go", 3, []), ("return", "b")]
        rows = [[("number", "b", 1)], [("see", "b")], [("see", "a")], [("see", "b")]]
        self.right([first(rows[0], ends[0])] + [block(rows[k], ends[k]) for k in (1, 2, 3)])
        late = [first(end=("go", 2, [])), block([("see", "b")]), block([("number", "b", 1)], ("go", 1, []))]
        self.right(late)

    def test_registers_in_loops(self):
        loop = ("if", "a", (1, ["a"]), (2, []))
        self.right([first(end=("go", 1, ["a"])), block([("look", 0), ("see", "b")], loop, numbers("b")), block(end=("return", "b"))])
        rows = [("look", 0), ("see", "c"), ("number", "c", 1)]
        self.wrong("blocks", (1, 1), [first(end=("go", 1, ["a"])), block(rows, loop, numbers("b")), block()])

    def test_kinds(self):
        params = [("a", "number"), ("b", "object")]
        source = function_source([("return", "a")], params)
        goods = [
            ("add", "r", "a", "a"), ("sub", "r", "a", "a"), ("times", "r", "a", "a"), ("less", "r", "a", "a"),
            ("same", "r", "a", "a"), ("same", "r", "b", "b"), ("get", "r", "b", "item"), ("put", "b", "item", "a"),
            ("put", "b", "next", "b"), ("call", "r", "f", ["a", "b"]), ("see", "a"), ("see", "b"), ("guard", "a", 1),
        ]
        for row in goods:
            self.right([(params, [row], ("return", "a"))], source)
        bads = [
            ("same", "r", "a", "b"), ("same", "r", "b", "a"), ("get", "r", "a", "item"), ("put", "a", "item", "a"),
            ("put", "b", "item", "b"), ("put", "b", "next", "a"), ("call", "r", "f", ["a", "a"]),
            ("call", "r", "f", ["b", "a"]), ("call", "r", "f", ["a"]), ("call", "r", "f", []),
            ("call", "r", "f", ["a", "b", "a"]), ("guard", "b", 1),
        ]
        bads.extend([(word, "r", *pair) for word in ("add", "sub", "times", "less") for pair in ("ab", "ba", "bb")])
        for row in bads:
            self.wrong("blocks", (0, 1), [(params, [("see", "a"), row], ("return", "a"))], source)
        goals = [((1, ["b"]), (1, ["a"])), ((1, ["a"]), (1, ["b"]))]
        self.wrong("blocks", (0, 0), [(params, [], ("return", "b"))], source)
        for end in [("go", 1, ["b"]), ("if", "b", (1, ["a"]), (1, ["a"])), *[("if", "a", *two) for two in goals]]:
            self.wrong("blocks", (0, 0), [(params, [], end), block(params=numbers("c"))], source)

    def test_kinds_of_what_rows_make(self):
        params = [("a", "number"), ("b", "object")]
        source = function_source([("return", "a")], params, more=[MAKE])
        kinds = {("number", "r", 1): "number", ("nil", "r"): "object", ("new", "r", "box"): "object",
                 ("get", "r", "b", "item"): "number", ("get", "r", "b", "next"): "object",
                 ("call", "r", "f", ("a", "b")): "number", ("call", "r", "make", ()): "object",
                 ("same", "r", "b", "b"): "number", ("less", "r", "a", "a"): "number"}
        for row, kind in kinds.items():
            row = tuple(list(part) if isinstance(part, tuple) else part for part in row)
            self.assertEqual(self.right([(params, [row], ("return", "a"))], source).kinds()["r"], kind)
            blocks = [(params, [row], ("return", "r"))]
            if kind == "number":
                self.right(blocks, source)
            else:
                self.wrong("blocks", (0, 1), blocks, source)

    def test_circles(self):
        def ring(rows):
            return [first(rows[0], ("go", 1, [])), block(rows[1], ("go", 2, [])), block(rows[2], ("if", "a", (1, []), (3, []))), block()]
        self.wrong("circle", 1, ring([[], [], []]))
        self.wrong("circle", 1, ring([[("look", 0)], [], []]))
        self.right(ring([[], [("look", 0)], []]))
        self.right(ring([[], [], [("guard", "a", 0)]]))
        self.wrong("circle", 1, [first(end=("go", 1, [])), block(end=("go", 1, []))])
        self.right([first(end=("go", 1, [])), block([("look", 0)], ("go", 1, []))])
        two = [first(end=("if", "a", (1, []), (2, []))), block([("look", 0)], ("go", 1, [])), block(end=("go", 3, [])), block(end=("go", 2, []))]
        self.wrong("circle", 2, two)
        inner = [first(end=("go", 1, [])), block([("look", 1)], ("go", 3, [])), block(end=("go", 3, [])), block(end=("if", "a", (2, []), (1, [])))]
        self.wrong("circle", 2, inner)


class TestWhichIsFirst(CodeCase):
    def test_places_by_themselves_are_ahead_of_all_others(self):
        many = [first([("see", "b")] * 20, ("go", 9, [])), block(looks(0, 20)), block([("see", "a")] * 20), block([("see", "a")] * 20)]
        self.wrong("rows", None, many)
        self.wrong("blocks", (3, 20), [*many[:3], block([("see", "a")] * 20, None)])
        self.wrong("blocks", (1, 20), [many[0], block(looks(0, 20), None), *many[2:]])

    def test_rows_points_goals_reached_uses_circle(self):
        rows = [("see", "a")] * 19
        ends = [("go", 9, []), ("return", "zz")]
        blocks = [first(rows + [("see", "b")], ends[0]), block(rows + [("look", 99)], ("go", 1, []))]
        blocks += [block(looks(10, 20), ends[1]), block([("see", "a")])]
        self.wrong("rows", None, blocks)
        blocks[3] = block()
        self.wrong("points", None, blocks)
        blocks[2] = block(looks(10, 11), ends[1])
        self.wrong("blocks", (0, 20), blocks)
        blocks[0] = first(rows + [("see", "b")], ("go", 3, []))
        self.wrong("blocks", (1,), blocks)
        blocks = [first([("see", "b")], ("go", 1, [])), block(end=("go", 1, []))]
        self.wrong("blocks", (0, 0), blocks)
        blocks[0] = first([], ("go", 1, []))
        self.wrong("circle", 1, blocks)

    def test_how_many_registers_a_goal_gives_is_told_ahead(self):
        self.wrong("blocks", (0, 1), [first([("see", "zz")], ("go", 1, [])), block(params=numbers("b"))])
        self.wrong("blocks", (0, 0), [first(end=("go", 2, [])), block(), block(params=numbers("b"))])
        self.wrong("blocks", (1,), [first([("see", "zz")], ("go", 2, ["zz"])), block(), block(params=numbers("b"))])

    def test_goals_of_all_blocks_are_ahead_of_what_is_not_reached(self):
        self.wrong("blocks", (2, 0), [first(), block(), block(end=("go", 3, []))])
        self.wrong("blocks", (1,), [first(), block(), block(end=("go", 1, []))])

    def test_what_is_not_reached_is_ahead_of_all_uses(self):
        self.wrong("blocks", (1,), [first([("see", "b")]), block()])

    def test_uses_are_told_block_by_block_rows_then_end(self):
        end = ("go", 1, ["zz"])
        params = numbers("p")
        self.wrong("blocks", (0, 1), [first([("see", "a"), ("see", "zz")], end), block([("see", "zz")], params=params)])
        self.wrong("blocks", (0, 1), [first([("see", "a")], end), block([("see", "zz")], params=params)])
        self.wrong("blocks", (0, 0), [first([("call", "r", "f", [])], end), block(params=params)])

    def test_a_block_is_told_ahead_of_its_rows_and_of_those_behind(self):
        self.wrong("blocks", (0,), [(None, [None], None), None])
        self.wrong("blocks", (0, 0), [first([None, None], None), None])
        self.wrong("blocks", (0, 1), [first([("see", "a")], None), None])
        self.wrong("blocks", (1,), [first(), None])


class TestOddThings(CodeCase):
    def place(self, path, thing):
        # All odd lists have one entry: what is wrong about them may be this one.
        if isinstance(thing, list):
            path = (*path, 0)
        if not path:
            return -1
        if len(path) == 1 or path[1] == 0 or (path[1] == 1 and len(path) == 2):
            return path[:1]
        return (path[0], path[2] if path[1] == 1 else len(ALL_BLOCKS[path[0]][1]))

    def test_anything_in_the_place_of_any_part(self):
        source = all_source()
        for path in paths_in(ALL_BLOCKS):
            for thing in odd_things():
                self.wrong("blocks", self.place(path, thing), with_part(ALL_BLOCKS, path, thing), source, "all")

    def test_an_empty_list_in_the_place_of_any_part(self):
        source = all_source()
        for path in paths_in(ALL_BLOCKS):
            if path and not isinstance(at_path(ALL_BLOCKS, path), list):
                self.wrong("blocks", self.place(path, None), with_part(ALL_BLOCKS, path, []), source, "all")


def simple_ways(goals, at, ahead=()):
    """All rows of blocks from one on without a block twice."""
    ways = [(*ahead, at)]
    for goal in goals[at]:
        if goal not in ways[0]:
            ways.extend(simple_ways(goals, goal, ways[0]))
    return ways


class TestRandomGraphs(CodeCase):
    """Blocks that make one register each; what is told is seen against all ways through them."""

    def blocks_of(self, goals, marked):
        blocks = []
        for k, (one, other) in enumerate(goals):
            rows = [("number", f"r{k}", k)]
            if k in marked:
                rows += [("number", f"s{k}", k), ("look", k), ("number", f"t{k}", k)]
            end = ("return", "a") if one == 0 else ("if", "a", (one, []), (other, []))
            blocks.append((numbers("a") if k == 0 else [], rows, end))
        return blocks

    def graph(self, chance):
        many = chance.randint(1, 7)
        goals = []
        for _ in range(many):
            one = chance.randint(1, many - 1) if many > 1 and chance.random() < 0.8 else 0
            goals.append((one, chance.randint(1, many - 1) if one else 0))
        return goals, [k for k in range(many) if chance.random() < 0.6]

    def test_reached_above_and_circles(self):
        chance = random.Random(5)
        seen = {"right": 0, "reached": 0, "circle": 0}
        for _ in range(1500):
            pairs, marked = self.graph(chance)
            goals = [[goal for goal in pair if goal] for pair in pairs]
            blocks = self.blocks_of(pairs, marked)
            ways = simple_ways(goals, 0)
            met = {way[-1] for way in ways}
            lost = [k for k in range(len(goals)) if k not in met]
            bare = [[goal for goal in near if goal not in marked] for near in goals]
            rings = [k for k in range(len(goals)) if k not in marked and self.on_ring(bare, k)]
            if lost:
                seen["reached"] += 1
                self.wrong("blocks", (lost[0],), blocks)
            elif rings:
                seen["circle"] += 1
                self.wrong("circle", rings[0], blocks)
            else:
                seen["right"] += 1
                self.check_usable(self.right(blocks), ways, marked)
        self.assertGreater(min(seen.values()), 100)

    def on_ring(self, goals, k):
        return any(k in goals[way[-1]] for way in simple_ways(goals, k))

    def check_usable(self, code, ways, marked):
        self.assertEqual(code.points(), marked)
        for k in marked:
            passed = [set(way) for way in ways if way[-1] == k]
            above = set.intersection(*passed) - {k}
            names = {"a", f"r{k}", f"s{k}"}
            for other in above:
                names |= {f"r{other}"} | ({f"s{other}", f"t{other}"} if other in marked else set())
            self.assertEqual(code.usable(k), sorted(names))
            self.assertEqual(code.place(k), (k, 2))


class TestUsesAgainstWays(CodeCase):
    def test_a_register_of_each_block_in_each_block(self):
        pairs = [(1, 2), (3, 3), (3, 4), (5, 1), (5, 5), (0, 0)]
        goals = [sorted({goal for goal in pair if goal}) for pair in pairs]
        ways = simple_ways(goals, 0)
        for maker, user in itertools.product(range(6), range(6)):
            blocks = []
            for k, (one, other) in enumerate(pairs):
                rows = [("look", k)] + [("number", "r", 1)] * (k == maker) + [("see", "r")] * (k == user)
                end = ("if", "a", (one, []), (other, [])) if one else ("return", "a")
                blocks.append((numbers("a") if k == 0 else [], rows, end))
            if maker == user or all(maker in way for way in ways if way[-1] == user):
                self.right(blocks)
            else:
                self.wrong("blocks", (user, 1), blocks)


class TestExample(CodeCase):
    def test_a_guard_and_a_row(self):
        rows = [("add", "a", "a", "a"), ("return", "a")]
        source = Source([], [("f", [("a", "number")], [], "number", rows)])
        code = Code(source, "f", [([("r", "number")], [("guard", "r", 0), ("add", "t", "r", "r")], ("return", "t"))])
        self.assertEqual([code.points(), code.place(0), code.usable(0)], [[0], (0, 0), ["r"]])


if __name__ == "__main__":
    unittest.main()
