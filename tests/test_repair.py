import itertools
import random
import unittest
from unittest import mock

from backframes.code import Code
from backframes.errors import InvalidArgument, InvalidCode, InvalidNumber, LimitExceeded
from backframes.facts import Facts
from backframes.frames import Backs, FrameState
from backframes.judging import judge, verdict
from backframes.repair import comes, known_range, least_recipe, mended
from backframes.source import Source
from backframes.ways import ways
from tests.compiled import compiled_backs
from tests.samples import function_source, numbers, objects, odd_things
from tests.test_judging import state_of, with_other_recipe
from tests.wild import wild_backs


def reg(name):
    return ("in", name)


def bad_example():
    rows = [("add", "b", "a", "a"), ("see", "b"), ("return", "b")]
    source = Source([], [("f", [("a", "number")], [("b", "number")], "number", rows)])
    code = Code(source, "f", [([("r", "number")], [("look", 0), ("add", "s", "r", "r"), ("see", "s")], ("return", "s"))])
    return Backs(code, [FrameState(code, 0, [("f", 1, {"b": reg("r")})], unmade={}, own={}, claims=[])])


class TestExample(unittest.TestCase):
    def test_the_example_of_the_document(self):
        bad = bad_example()
        told = [least_recipe(bad, 0, 0, "b"), least_recipe(bad, 0, 0, "a"), known_range(bad, 0, ("same", reg("r"), reg("r")))]
        self.assertEqual(told, [("add", reg("r"), reg("r")), reg("r"), (1, 1)])
        self.assertEqual(mended(bad).state_at(0).frames(), [("f", 1, {"b": ("add", reg("r"), reg("r"))})])

    def test_arguments_by_name(self):
        bad = bad_example()
        self.assertEqual(comes(point=0, backs=bad), [(None, (), 1)])
        self.assertEqual(least_recipe(variable="a", frame=0, point=0, backs=bad), reg("r"))
        self.assertEqual(known_range(recipe=("number", 4), point=0, backs=bad), (4, 4))
        self.assertEqual(judge(mended(backs=bad)), ("right",))


class TestComes(unittest.TestCase):
    ROWS = [("number", "o", 1), ("if", "a", 5), ("see", "a"), ("sub", "a", "a", "o"), ("jump", 1), ("return", "a")]

    def loop(self, row, recipes=None, guard=False):
        source = function_source(self.ROWS, numbers("a"), numbers("o"))
        point = ("guard", "i", 3) if guard else ("look", 3)
        blocks = [(numbers("r"), [("number", "one", 1)], ("if", "r", (1, ["r"]), (2, ["r"]))),
                  (numbers("i"), [point, ("see", "i"), ("sub", "j", "i", "one")], ("if", "j", (1, ["j"]), (2, ["j"]))), (numbers("k"), [("look", 9)], ("return", "k"))]
        code = Code(source, "f", blocks)
        first = FrameState(code, 3, [("f", row, recipes or {"a": reg("i"), "o": reg("one")})], unmade={}, own={}, claims=[])
        return Backs(code, [first, FrameState(code, 9, [("f", 5, {"a": reg("k")})], unmade={}, own={}, claims=[])])

    def test_ways_in_the_order_of_the_judge(self):
        backs = self.loop(2)
        self.assertEqual(comes(backs, 3), [(None, (0,), 2), (3, (0,), 4)])
        self.assertEqual(comes(backs, 9), [(None, (1,), 2), (3, (1,), 4)])

    def test_whatever_the_values_are(self):
        backs = self.loop(2, {"a": ("number", 7), "o": reg("i")})
        self.assertEqual(comes(backs, 3), [(None, (0,), 2), (3, (0,), None)])
        self.assertEqual(verdict(backs, None, (0,)), ("state", None))

    def test_where_it_does_not_come(self):
        backs = self.loop(5, {"a": reg("i")})
        self.assertEqual(comes(backs, 3), [(None, (0,), None), (3, (0,), None)])
        backs = self.loop(0)
        self.assertEqual(comes(backs, 3), [(None, (0,), 0), (3, (0,), None)])

    def test_the_beginning_does_not_count_on_a_way_to_itself(self):
        """Nothing is done on the way, so that the rows of the point are met at once; they count when they are met again."""
        source = function_source([("jump", 1), ("copy", "b", "a"), ("jump", 0), ("return", "a")], numbers("a"), numbers("b"))
        code = Code(source, "f", [(numbers("r"), [], ("go", 1, [])), ([], [("look", 6), ("look", 5)], ("go", 1, []))])
        states = [FrameState(code, k, [("f", row, {"a": reg("r")})], unmade={}, own={}, claims=[]) for k, row in ((6, 1), (5, 1))]
        backs = Backs(code, states)
        self.assertEqual([comes(backs, 6), comes(backs, 5)], [[(None, (), 1), (5, (), 0)], [(6, (), 0)]])
        code = Code(source, "f", [(numbers("r"), [], ("go", 1, [])), ([], [("look", 6)], ("go", 1, []))])
        backs = Backs(code, [FrameState(code, 6, [("f", 1, {"a": reg("r")})], unmade={}, own={}, claims=[])])
        self.assertEqual([comes(backs, 6), verdict(backs, 6, ())], [[(None, (), 1), (6, (), 3)], ("right", 0)])

    def test_impossible_ways_are_left_out(self):
        source = function_source([("return", "a")], numbers("a"))
        blocks = [(numbers("r"), [("guard", "r", 1)], ("if", "r", (1, []), (2, []))), ([], [("look", 2)], ("return", "r")), ([], [("look", 4)], ("return", "r"))]
        code = Code(source, "f", blocks)
        backs = Backs(code, [state_of(code, k, 0, {"a": reg("r")}) for k in (1, 2, 4)])
        self.assertEqual([comes(backs, 2), comes(backs, 4)], [[(1, (0,), 0)], []])
        self.assertEqual([known_range(backs, 2, reg("r")), known_range(backs, 4, reg("r"))], [(None, None), None])
        self.assertEqual([least_recipe(backs, 4, 0, "a"), mended(backs) == backs], [("number", 0), True])

    def test_a_word_that_ends_it(self):
        source = function_source([("see", "a"), ("if", "b", 3), ("jump", 4), ("see", "a"), ("return", "b")], numbers("a", "b"))
        code = Code(source, "f", [(numbers("r", "s"), [("look", 3), ("see", "r"), ("look", 1)], ("return", "s"))])
        for row, rows in ((1, 1), (2, None), (3, None), (4, None)):
            recipes = {"a": reg("r"), "b": reg("s")}
            backs = Backs(code, [state_of(code, 3, 0, recipes), state_of(code, 1, row, recipes)])
            self.assertEqual(comes(backs, 1), [(3, (), rows)])
            self.assertEqual(least_recipe(backs, 1, 0, "b"), None if rows is None else reg("s"))

    def test_two_hundred_rows(self):
        source = function_source([("sub", "a", "a", "o"), ("if", "a", 3), ("jump", 0), ("return", "b")], numbers("a"), numbers("b", "o"))
        code = Code(source, "f", [(numbers("r"), [("look", 2), ("number", "m", 0), ("look", 5)], ("return", "m"))])
        for count, rows in ((67, 200), (68, None)):
            first = state_of(code, 2, 0, {"a": ("number", count), "o": ("number", 1), "b": ("number", 0)})
            self.assertEqual(comes(Backs(code, [first, state_of(code, 5, 3, {"b": reg("m")})]), 5), [(2, (), rows)])

    def test_what_is_returned_is_new(self):
        backs = self.loop(2)
        comes(backs, 3).clear()
        self.assertEqual(len(comes(backs, 3)), 2)


class TestLeastRecipe(unittest.TestCase):
    def told(self, source_rows, rows, variables, end="r", row=None, kinds=None):
        """The least recipes of variables at a point at the end of rows of code, where the source has done its rows."""
        params = numbers("a", "b")
        others = numbers("n", "m") + objects("o", "p")
        source = function_source([*source_rows, ("return", "a")], params, others)
        code = Code(source, "f", [(numbers("r", "s"), [*rows, ("look", 0)], ("return", end))])
        backs = Backs(code, [state_of(code, 0, len(source_rows), {"a": ("number", 0)})])
        return [least_recipe(backs, 0, 0, variable) for variable in variables]

    def test_integers_come_first(self):
        told = self.told([("number", "n", 7), ("less", "m", "n", "n")], [("number", "t", 7)], ["n", "m", "a"])
        self.assertEqual(told, [("number", 7), ("number", 0), reg("r")])

    def test_integers_that_are_too_great(self):
        rows = [("number", "n", 10 ** 9), ("copy", "m", "n"), ("add", "n", "n", "n")]
        self.assertEqual(self.told(rows, [], ["m", "n"]), [("number", 10 ** 9), None])
        self.assertEqual(self.told(rows, [("number", "x", 10 ** 9), ("add", "y", "x", "x")], ["n"]), [reg("y")])
        self.assertEqual(self.told(rows, [("number", "x", 10 ** 9)], ["n"]), [("add", reg("x"), reg("x"))])
        self.assertEqual(self.told([*rows, ("add", "n", "n", "m")], [("number", "x", 10 ** 9)], ["n"]), [None])

    def test_registers_in_their_order(self):
        self.assertEqual(self.told([("add", "n", "a", "b")], [("add", "z", "s", "r"), ("add", "y", "r", "s"), ("sub", "x", "r", "s")], ["n"]), [reg("y")])

    def test_one_operation_away(self):
        rows = [("number", "k", 2)]
        for op, told in (("add", ("add", reg("r"), reg("s"))), ("sub", ("sub", reg("r"), reg("s"))), ("times", ("times", reg("r"), reg("s"))),
                         ("less", ("less", reg("r"), reg("s"))), ("same", ("same", reg("r"), reg("s")))):
            self.assertEqual(self.told([(op, "n", "a", "b")], rows, ["n"]), [told])
        for op, told in (("add", ("add", reg("r"), reg("s"))), ("sub", ("sub", reg("s"), reg("r"))), ("less", ("less", reg("s"), reg("r"))), ("times", ("times", reg("r"), reg("s")))):
            self.assertEqual(self.told([(op, "n", "b", "a")], rows, ["n"]), [told])
        self.assertEqual(self.told([("add", "n", "a", "a")], rows, ["n"]), [("add", reg("r"), reg("r"))])

    def test_operations_in_their_order(self):
        rows = [("number", "z", 0), ("number", "k", 1)]
        self.assertEqual(self.told([("number", "m", 1), ("add", "n", "a", "m")], rows, ["n"]), [("add", reg("k"), reg("r"))])
        self.assertEqual(self.told([("number", "m", 0), ("sub", "n", "m", "a")], rows, ["n"]), [("sub", reg("z"), reg("r"))])
        self.assertEqual(self.told([("add", "n", "a", "a"), ("times", "n", "n", "n")], [("add", "t", "r", "r")], ["n"]), [("times", reg("t"), reg("t"))])

    def test_same_of_objects(self):
        source_rows = [("nil", "p"), ("get", "o", "q", "next"), ("same", "n", "o", "p"), ("return", "n")]
        source = function_source(source_rows, objects("q"), numbers("n") + objects("o", "p"))
        rows = [("nil", "z"), ("get", "t", "x", "next"), ("number", "k", 4), ("look", 0)]
        code = Code(source, "f", [(objects("x"), rows, ("return", "k"))])
        backs = Backs(code, [state_of(code, 0, 3, {"n": ("number", 0)})])
        self.assertEqual([least_recipe(backs, 0, 0, variable) for variable in "qopn"], [reg("x"), reg("t"), ("nil",), ("same", reg("t"), reg("z"))])

    def test_a_register_and_an_integer(self):
        add = [("number", "m", 5), ("add", "n", "a", "m")]
        self.assertEqual(self.told(add, [], ["n"]), [("add", reg("r"), ("number", 5))])
        self.assertEqual(self.told([("number", "m", 5), ("sub", "n", "a", "m")], [], ["n"]), [("add", reg("r"), ("number", -5))])
        self.assertEqual(self.told([("number", "m", 5), ("sub", "n", "m", "b")], [], ["n"]), [("sub", ("number", 5), reg("s"))])
        self.assertEqual(self.told([("number", "m", 5), ("times", "n", "b", "m")], [], ["n"]), [("times", reg("s"), ("number", 5))])
        self.assertEqual(self.told([("number", "m", -1), ("times", "n", "b", "m")], [], ["n"]), [("sub", ("number", 0), reg("s"))])

    def test_such_ones_in_their_order(self):
        """All sums come ahead of all differences, and these ahead of all products."""
        rows = [("number", "m", 3), ("add", "n", "a", "b"), ("add", "n", "n", "m")]
        code_rows = [("add", "t", "r", "s"), ("number", "k", -1), ("times", "c", "t", "k")]
        self.assertEqual(self.told(rows, code_rows, ["n"]), [("add", reg("t"), ("number", 3))])
        self.assertEqual(self.told(rows, [code_rows[1], ("add", "t", "r", "s"), ("times", "c", "t", "k"), ("number", "q", 3)], ["n"]), [("add", reg("q"), reg("t"))])
        triple = [("number", "m", 3), ("times", "n", "a", "m")]
        self.assertEqual(self.told(triple, [("number", "k", -1), ("times", "c", "r", "k")], ["n"]), [("times", reg("c"), ("number", -3))])
        self.assertEqual(self.told([*triple, ("add", "n", "n", "m")], [("number", "k", -3), ("times", "c", "r", "k")], ["n"]), [("sub", ("number", 3), reg("c"))])

    def test_integers_of_recipes_are_bounded(self):
        great = [("number", "m", 10 ** 9), ("add", "n", "a", "m")]
        self.assertEqual(self.told(great, [], ["n"]), [("add", reg("r"), ("number", 10 ** 9))])
        self.assertEqual(self.told([*great, ("add", "n", "n", "m")], [], ["n"]), [None])
        self.assertEqual(self.told([("number", "m", 10 ** 9), ("times", "n", "a", "m")], [], ["n"]), [("times", reg("r"), ("number", 10 ** 9))])
        self.assertEqual(self.told([("number", "m", 10 ** 9), ("times", "n", "a", "m"), ("add", "n", "n", "n")], [], ["n"]), [None])

    def test_products_only_with_parts(self):
        """Both are integers on the first way, but not the same ones on the second one."""
        rows = [("number", "m", 3), ("times", "n", "a", "m"), ("return", "n")]
        source = function_source(rows, numbers("a"), numbers("n", "m"))
        blocks = [(numbers("r"), [("number", "k", 2)], ("if", "r", (1, ["r"]), (1, ["k"]))), (numbers("t"), [("look", 0)], ("return", "t"))]
        code = Code(source, "f", blocks)
        backs = Backs(code, [state_of(code, 0, 2, {"n": ("number", 0)})])
        self.assertEqual(comes(backs, 0), [(None, (0,), 2), (None, (1,), 2)])
        self.assertEqual(least_recipe(backs, 0, 0, "n"), ("times", reg("r"), ("number", 3)))
        self.assertEqual(least_recipe(backs, 0, 0, "a"), reg("r"))

    def test_what_is_known_by_sums_of_several_parts(self):
        """a is known to be the double of b by what an if asks, so that a product tells what is three times a."""
        rows = [("add", "m", "b", "b"), ("same", "n", "a", "m"), ("if", "n", 6), ("number", "m", 3), ("times", "n", "b", "m"), ("jump", 6), ("return", "n")]
        source = function_source(rows, numbers("a", "b"), numbers("n", "m"))
        first = [("add", "t", "s", "s"), ("same", "e", "r", "t")]
        blocks = [(numbers("r", "s"), first, ("if", "e", (1, []), (2, []))), ([], [("number", "k", 5), ("times", "u", "t", "k"), ("look", 0)], ("return", "r")), ([], [], ("return", "e"))]
        code = Code(source, "f", blocks)
        backs = Backs(code, [state_of(code, 0, 5, {"n": ("number", 0)})])
        # The first one that is known to be the same is a sum: 3 * b is a + b.
        self.assertEqual(least_recipe(backs, 0, 0, "n"), ("add", reg("r"), reg("s")))
        rows[3] = ("number", "m", 14)
        code = Code(function_source(rows, numbers("a", "b"), numbers("n", "m")), "f", blocks)
        backs = Backs(code, [state_of(code, 0, 5, {"n": ("number", 0)})])
        self.assertEqual(least_recipe(backs, 0, 0, "n"), ("times", reg("r"), ("number", 7)))

    def test_registers_that_are_known_to_be_0(self):
        """a is known to be b, so that their difference is 0; its multiples tell nothing else."""
        rows = [("same", "n", "a", "b"), ("if", "n", 5), ("number", "m", 7), ("times", "n", "a", "m"), ("jump", 5), ("return", "n")]
        source = function_source(rows, numbers("a", "b"), numbers("n", "m"))
        first = [("same", "e", "r", "s"), ("sub", "aa", "r", "s")]
        for times, told in ((5, None), (7, reg("u"))):
            inner = [("number", "k", times), ("times", "u", "s", "k"), ("look", 0)]
            blocks = [(numbers("r", "s"), first, ("if", "e", (1, []), (2, []))), ([], inner, ("return", "r")), ([], [], ("return", "e"))]
            code = Code(source, "f", blocks)
            backs = Backs(code, [state_of(code, 0, 4, {"n": ("number", 0)})])
            self.assertEqual(least_recipe(backs, 0, 0, "n"), told or ("times", reg("r"), ("number", 7)))
            self.assertEqual(known_range(backs, 0, reg("aa")), (0, 0))

    def test_both_are_changed_by_what_is_known_to_be_0(self):
        """With a = 2 * b, what the source has, 4 * a + 6 * b, is 7 * a."""
        sums = [("add", "m", "b", "b"), ("same", "n", "a", "m"), ("if", "n", 9)]
        rows = [*sums, ("number", "n", 4), ("times", "n", "a", "n"), ("number", "m", 6), ("times", "m", "b", "m"), ("add", "n", "n", "m"), ("jump", 9), ("return", "n")]
        source = function_source(rows, numbers("a", "b"), numbers("n", "m"))
        first = [("add", "t", "s", "s"), ("same", "e", "r", "t")]
        inner = [("number", "k", 29), ("look", 0)]
        blocks = [(numbers("r", "s"), first, ("if", "e", (1, []), (2, []))), ([], inner, ("return", "r")), ([], [], ("return", "e"))]
        code = Code(source, "f", blocks)
        backs = Backs(code, [state_of(code, 0, 8, {"n": ("number", 0)})])
        self.assertEqual(least_recipe(backs, 0, 0, "n"), ("times", reg("r"), ("number", 7)))

    def test_products_that_are_too_great(self):
        """Powers above 20 are not multiplied out; that of the source is made of the same factors as that of the code."""
        def squares(first, name, many):
            return [("times", f"{name}{k + 1}", f"{name}{k}" if k else first, f"{name}{k}" if k else first) for k in range(many)]

        source_rows = [("times", "n", "a", "a"), ("times", "n", "n", "n"), ("times", "n", "n", "n"), ("times", "m", "n", "n")]
        for last, told in ((("times", "n", "m", "n"), ("times", reg("t3"), reg("t4"))), (("times", "n", "m", "m"), ("times", reg("t4"), reg("t4"))),
                           (("add", "n", "n", "m"), ("add", reg("t3"), reg("t4"))), (("times", "n", "n", "n"), reg("t4"))):
            source = function_source([*source_rows, last, ("return", "n")], numbers("a"), numbers("n", "m"))
            code = Code(source, "f", [(numbers("r"), [*squares("r", "t", 4), ("look", 0)], ("return", "r"))])
            backs = Backs(code, [state_of(code, 0, 5, {"n": ("number", 0)})])
            self.assertEqual(least_recipe(backs, 0, 0, "n"), told)
        rows = [*source_rows, ("times", "n", "m", "n"), ("times", "n", "n", "m"), ("return", "n")]
        source = function_source(rows, numbers("a"), numbers("n", "m"))
        code_rows = [*squares("r", "t", 4), ("times", "u", "t3", "t4")]
        code = Code(source, "f", [(numbers("r"), [*code_rows, ("look", 0)], ("return", "r"))])
        backs = Backs(code, [state_of(code, 0, 6, {"n": ("number", 0)})])
        self.assertEqual(least_recipe(backs, 0, 0, "n"), ("times", reg("t4"), reg("u")))

    def test_it_must_tell_on_all_ways(self):
        rows = [("if", "a", 3), ("copy", "n", "a"), ("jump", 4), ("copy", "n", "b"), ("return", "n")]
        source = function_source(rows, numbers("a", "b"), numbers("n"))
        for given, told in (([["r"], ["s"]], reg("t")), ([["r"], ["r"]], None), ([["s"], ["s"]], None)):
            blocks = [(numbers("r", "s"), [], ("if", "r", (1, given[0]), (1, given[1]))), (numbers("t"), [("look", 0)], ("return", "t"))]
            code = Code(source, "f", blocks)
            backs = Backs(code, [state_of(code, 0, 4, {"n": ("number", 0)})])
            self.assertEqual(least_recipe(backs, 0, 0, "n"), told)

    def test_unmade_objects(self):
        rows = [("new", "o", "cell"), ("new", "p", "cell"), ("put", "o", "item", "a"), ("put", "p", "next", "o"), ("return", "a")]
        source = function_source(rows, numbers("a"), objects("o", "p", "q"))
        code = Code(source, "f", [(numbers("r"), [("look", 0)], ("return", "r"))])
        plain = ("cell", {"item": ("number", 0), "next": ("nil",)})
        held = {"o": ("cell", {"item": reg("r"), "next": ("nil",)}), "p": ("cell", {"item": ("number", 0), "next": ("unmade", 4)})}
        backs = Backs(code, [state_of(code, 0, 4, {"a": reg("r")}, unmade={4: held["o"], 2: plain, 3: held["p"], 1: held["p"]})])
        self.assertEqual([least_recipe(backs, 0, 0, variable) for variable in "opq"], [("unmade", 4), ("unmade", 1), ("nil",)])
        backs = Backs(code, [state_of(code, 0, 4, {"a": reg("r")}, unmade={2: plain})])
        self.assertEqual([least_recipe(backs, 0, 0, variable) for variable in "opq"], [None, None, ("nil",)])

    def test_registers_come_ahead_of_unmade_objects(self):
        source = function_source([("new", "o", "box"), ("return", "a")], numbers("a"), objects("o"))
        code = Code(source, "f", [(numbers("r"), [("new", "y", "box"), ("new", "x", "box"), ("look", 0)], ("return", "r"))])
        backs = Backs(code, [state_of(code, 0, 1, {"a": reg("r")}, unmade={0: ("box", {"item": ("number", 0)})})])
        self.assertEqual(least_recipe(backs, 0, 0, "o"), reg("x"))

    def test_frames(self):
        inner = ("g", numbers("n"), numbers("m"), "number", [("add", "m", "n", "n"), ("return", "m")])
        source = function_source([("call", "b", "g", ["a"]), ("return", "b")], numbers("a"), numbers("b"), more=[inner])
        code = Code(source, "f", [(numbers("r"), [("add", "t", "r", "r"), ("look", 0)], ("return", "t"))])
        frames = [("f", 0, {}), ("g", 1, {"m": ("number", 1)})]
        backs = Backs(code, [state_of(code, 0, frames, None)])
        told = [least_recipe(backs, 0, at, variable) for at, variable in ((0, "a"), (0, "b"), (1, "n"), (1, "m"))]
        self.assertEqual(told, [reg("r"), ("number", 0), reg("r"), reg("t")])
        self.assertEqual(mended(backs).state_at(0).frames(), [("f", 0, {}), ("g", 1, {"m": reg("t")})])

    def test_no_way(self):
        source = function_source([("return", "a")], numbers("a"), objects("o"))
        blocks = [(numbers("r"), [("guard", "r", 1)], ("if", "r", (1, []), (2, []))), ([], [], ("return", "r")), ([], [("look", 4)], ("return", "r"))]
        code = Code(source, "f", blocks)
        backs = Backs(code, [state_of(code, k, 0, {"a": reg("r")}) for k in (1, 4)])
        self.assertEqual([least_recipe(backs, 4, 0, "a"), least_recipe(backs, 4, 0, "o"), known_range(backs, 4, reg("r"))], [("number", 0), ("nil",), None])


class TestMended(unittest.TestCase):
    def test_what_is_right_stays(self):
        for seed in range(40):
            backs = compiled_backs(random.Random(seed))
            if judge(backs) == ("right",):
                self.assertTrue(mended(backs) == backs)

    def test_only_wrong_recipes_are_replaced(self):
        source = function_source([("add", "b", "a", "a"), ("see", "b"), ("return", "b")], numbers("a"), numbers("b"))
        code = Code(source, "f", [(numbers("r"), [("look", 0), ("add", "s", "r", "r"), ("see", "s")], ("return", "s"))])
        strange = ("sub", ("add", reg("r"), ("number", 1)), ("number", 1))
        backs = Backs(code, [state_of(code, 0, 1, {"b": reg("r"), "a": strange})])
        self.assertEqual(mended(backs).state_at(0).frames(), [("f", 1, {"b": ("add", reg("r"), reg("r")), "a": strange})])
        self.assertEqual(backs.state_at(0).frames(), [("f", 1, {"b": reg("r"), "a": strange})])

    def test_other_parts_stay(self):
        rows = [("new", "o", "cell"), ("put", "o", "item", "a"), ("see", "a"), ("get", "a", "o", "item"), ("return", "a")]
        source = function_source(rows, numbers("a"), objects("o"))
        code = Code(source, "f", [(numbers("r"), [("new", "x", "cell"), ("put", "x", "item", "r"), ("look", 0), ("see", "r")], ("return", "r"))])
        own = {"x": ("cell", {"item": reg("r"), "next": ("nil",)})}
        unmade = {3: ("cell", {"item": reg("r"), "next": ("nil",)})}
        claims = [("other", ("number", 1))]
        told = mended(Backs(code, [state_of(code, 0, 2, {"o": ("nil",), "a": ("number", 4)}, own=own, unmade=unmade, claims=claims)])).state_at(0)
        self.assertEqual([told.frames(), told.own(), told.unmade(), told.claims()], [[("f", 2, {"o": reg("x"), "a": reg("r")})], own, unmade, claims])

    def test_several_times(self):
        """Each time the next point is told right, as the interpreter comes there rightly only then."""
        for many in (3, 12):
            rows = [row for _ in range(many) for row in (("see", "a"), ("add", "a", "a", "o"))]
            source = function_source([*rows, ("return", "a")], numbers("a", "o"))
            code_rows, states, last = [], [], "r"
            for k in range(many):
                code_rows.extend([("look", k), ("see", last), ("add", f"t{k}", last, "s")])
                states.append((k, 2 * k, {"a": ("number", 5), "o": reg("s")}, last))
                last = f"t{k}"
            blocks = [(numbers("r", "s"), code_rows[:18], ("go", 1, [])), ([], code_rows[18:], ("return", last))]
            code = Code(source, "f", blocks)
            backs = Backs(code, [state_of(code, k, row, recipes) for k, row, recipes, _ in states])
            better = mended(backs)
            self.assertEqual(judge(better), ("right",))
            self.assertEqual([better.state_at(k).frames()[0][2]["a"] for k in range(many)], [reg(value) for _, _, _, value in states])

    def test_what_cannot_be_mended(self):
        source = function_source([("see", "a"), ("see", "a"), ("return", "a")], numbers("a"), objects("o"))
        code = Code(source, "f", [(numbers("r"), [("look", 0), ("see", "r")], ("return", "r"))])
        self.assertIsNone(mended(Backs(code, [state_of(code, 0, 0, {"a": ("number", 3)})])))
        self.assertIsNone(mended(Backs(code, [state_of(code, 0, 0, {"a": reg("r")})])))

    def test_circles_cannot_be_mended(self):
        source = function_source([("jump", 0), ("return", "a")], numbers("a"))
        code = Code(source, "f", [(numbers("r"), [], ("go", 1, [])), ([], [("look", 1)], ("go", 1, []))])
        backs = Backs(code, [state_of(code, 1, 0, {})])
        self.assertEqual([judge(backs), mended(backs)], [("circle", [1]), None])

    def test_ways_on_which_it_does_not_come_do_not_count(self):
        """From the second point the interpreter does not come to the first one; its recipe is mended by the other way."""
        source = function_source([("see", "a"), ("return", "a")], numbers("a"))
        code = Code(source, "f", [(numbers("r"), [("look", 0), ("see", "r"), ("look", 1)], ("return", "r"))])
        backs = Backs(code, [state_of(code, 0, 0, {"a": ("number", 1)}), state_of(code, 1, 1, {"a": ("number", 2)})])
        self.assertEqual([comes(backs, 0), comes(backs, 1)], [[(None, (), 0)], [(0, (), None)]])
        self.assertIsNone(least_recipe(backs, 1, 0, "a"))
        told = mended(backs)
        self.assertEqual([told.state_at(k).frames()[0][2]["a"] for k in (0, 1)], [reg("r"), reg("r")])

    def test_whatever_is_mended_is_right(self):
        counts = [0, 0]
        for seed in range(130):
            chance = random.Random(seed)
            backs = compiled_backs(chance)
            if backs.code.points():
                wrong = with_other_recipe(chance, with_other_recipe(chance, backs))
                told = mended(wrong)
                counts[told is None] += 1
                if told is not None:
                    self.assertEqual(judge(told), ("right",))
                    self.check_what_stays(wrong, told)
        self.assertTrue(min(counts) > 10, counts)

    def check_what_stays(self, wrong, told):
        for one, other in zip(wrong.states(), told.states()):
            self.assertEqual([frame[:2] for frame in one.frames()], [frame[:2] for frame in other.frames()])
            self.assertEqual([sorted(frame[2]) for frame in one.frames()], [sorted(frame[2]) for frame in other.frames()])


class TestKnownRange(unittest.TestCase):
    def setUp(self):
        source = function_source([("return", "a")], numbers("a", "b"))
        rows = [("less", "l", "r", "s"), ("number", "n", 4), ("number", "m", -2)]
        blocks = [(numbers("r", "s"), rows, ("if", "l", (1, ["n"]), (1, ["m"]))), (numbers("t"), [("look", 6)], ("return", "r"))]
        code = Code(source, "f", blocks)
        self.backs = Backs(code, [state_of(code, 6, 0, {"a": reg("r")})])

    def test_ranges(self):
        difference = ("sub", reg("s"), reg("r"))
        told = {reg("t"): (-2, 4), reg("n"): (4, 4), reg("l"): (0, 1), reg("r"): (None, None), ("number", 7): (7, 7), difference: (None, None),
                ("times", difference, reg("l")): (0, None), ("add", reg("t"), ("number", 10)): (8, 14), ("less", reg("r"), reg("s")): (0, 1),
                ("add", reg("t"), ("times", reg("l"), ("number", -6))): (-2, -2)}
        for recipe, expected in told.items():
            self.assertEqual(known_range(self.backs, 6, recipe), expected)

    def test_one_end(self):
        source = function_source([("return", "a")], numbers("a", "b"))
        blocks = [(numbers("r", "s"), [("less", "l", "r", "s")], ("if", "l", (1, []), (2, []))), ([], [("look", 6)], ("return", "r")), ([], [("look", 7)], ("return", "r"))]
        code = Code(source, "f", blocks)
        backs = Backs(code, [state_of(code, k, 0, {"a": reg("r")}) for k in (6, 7)])
        difference = ("sub", reg("s"), reg("r"))
        self.assertEqual([known_range(backs, k, difference) for k in (6, 7)], [(1, None), (None, 0)])
        self.assertEqual([known_range(backs, k, ("sub", ("number", 3), difference)) for k in (6, 7)], [(None, 2), (3, None)])

    def test_same_of_objects(self):
        source = function_source([("return", "a")], numbers("a") + objects("o"))
        code = Code(source, "f", [(numbers("r") + objects("x"), [("new", "c", "box"), ("nil", "z"), ("look", 2)], ("return", "r"))])
        backs = Backs(code, [state_of(code, 2, 0, {"a": reg("r")})])
        told = [known_range(backs, 2, ("same", one, other)) for one, other in ((reg("c"), reg("x")), (reg("z"), ("nil",)), (reg("x"), reg("z")))]
        self.assertEqual(told, [(0, 0), (1, 1), (0, 1)])

    def test_ways_on_which_the_interpreter_does_not_come_count(self):
        backs = self.backs
        code = backs.code
        source = function_source([("see", "a"), ("return", "a")], numbers("a", "b"))
        code = Code(source, "f", code.blocks())
        backs = Backs(code, [state_of(code, 6, 1, {"a": reg("r")})])
        self.assertEqual([comes(backs, 6), known_range(backs, 6, reg("t"))], [[(None, (0,), None), (None, (1,), None)], (-2, 4)])


class TestWrong(unittest.TestCase):
    CALLS = (
        lambda backs, point, odd: comes(backs, point),
        lambda backs, point, odd: least_recipe(backs, point, odd, odd),
        lambda backs, point, odd: known_range(backs, point, odd),
    )

    def raises(self, error, call):
        with self.assertRaises(error) as caught:
            call()
        return caught.exception

    def test_no_backs(self):
        for odd in odd_things():
            if not isinstance(odd, Backs):
                for call in (*self.CALLS, lambda backs, point, odd: mended(backs)):
                    told = self.raises(InvalidCode, lambda: call(odd, odd, odd))
                    self.assertEqual((told.part, told.at), ("backs", None))

    def test_no_point(self):
        for odd in [*odd_things(), 1, -1, "0", False]:
            for call in self.CALLS:
                self.assertIs(self.raises(InvalidNumber, lambda: call(bad_example(), odd, odd)).number, odd)

    def test_no_frame_or_variable(self):
        bad = bad_example()
        for odd in [*odd_things(), 1, -1, "0"]:
            self.assertEqual(self.raises(InvalidArgument, lambda: least_recipe(bad, 0, odd, odd)).part, "frame")
        for odd in [*odd_things(), "c", "f", "r"]:
            self.assertEqual(self.raises(InvalidArgument, lambda: least_recipe(bad, 0, 0, odd)).part, "variable")

    def test_no_recipe_of_a_number(self):
        bad = bad_example()
        wrong = [("nil",), ("in", "s"), ("in", "x"), ("unmade", 0), ("number", 10 ** 9 + 1), ("number", True), ("add", reg("r")), ("same", ("nil",), reg("r")), ["in", "r"]]
        deep = reg("r")
        for _ in range(5):
            deep = ("add", deep, reg("r"))
        self.assertEqual(known_range(bad, 0, deep), (None, None))
        for odd in [*odd_things(), *wrong, ("add", deep, reg("r"))]:
            self.assertEqual(self.raises(InvalidArgument, lambda: known_range(bad, 0, odd)).part, "recipe")

    def many_ways(self):
        source = function_source([("return", "a")], numbers("a"))
        blocks = [(numbers("r"), [("look", 0)], ("go", 1, ["r"]))]
        for k in range(1, 9):
            blocks.append((numbers(f"p{k}"), [], ("if", f"p{k}", (k + 1, ["r"]), (k + 1, ["r"]))))
        blocks.append((numbers("last"), [("look", 1)], ("return", "r")))
        code = Code(source, "f", blocks)
        return Backs(code, [state_of(code, k, 0, {"a": reg("r")}) for k in (0, 1)])

    def test_limits_come_last(self):
        backs = self.many_ways()
        self.assertEqual(len(ways(backs.code, 1)), 1)
        for call in (lambda: comes(backs, 0), lambda: least_recipe(backs, 1, 0, "a"), lambda: known_range(backs, 1, reg("r")), lambda: mended(backs)):
            self.assertEqual(self.raises(LimitExceeded, call).limit, 200)
        self.assertEqual(self.raises(InvalidNumber, lambda: comes(backs, 2)).number, 2)
        self.assertEqual(self.raises(InvalidArgument, lambda: least_recipe(backs, 0, 1, "x")).part, "frame")
        self.assertEqual(self.raises(InvalidArgument, lambda: known_range(backs, 0, ("nil",))).part, "recipe")


class TestRandom(unittest.TestCase):
    def test_right_frame_states_tell_their_variables(self):
        """Where the judge says right, the ways come to their points, and each variable has a recipe."""
        for seed in range(100):
            backs = compiled_backs(random.Random(seed))
            if judge(backs) != ("right",):
                continue
            for point in backs.code.points():
                told = comes(backs, point)
                self.assertNotIn(None, [rows for _, _, rows in told])
                expected = [(start, turns) for start in (None, *backs.code.points()) for turns, goal in ways(backs.code, start) if goal == point]
                self.assertEqual([way[:2] for way in told], [way for way in expected if verdict(backs, *way)[0] != "impossible"])
                frames = backs.state_at(point).frames()
                for at, variable in itertools.islice(((at, variable) for at, frame in enumerate(frames) for variable in frame[2]), 3):
                    recipe = least_recipe(backs, point, at, variable)
                    if all(rows == verdict(backs, start, turns)[1] for start, turns, rows in told):
                        self.assertIsNotNone(recipe)

    def arithmetic(self, chance):
        """A function and code that reckon with the same numbers, in another order and with other numbers beside them."""
        words = ["add", "sub", "times", "times", "less", "same"]
        names, rows = ["a", "b"], [("number", "z", chance.randint(-2, 2))]
        for name in ("c", "d", "e"):
            rows.append((chance.choice(words), name, chance.choice(names), chance.choice([*names, "z"])))
            names.append(name)
        source = function_source([*rows, ("return", "a")], numbers("a", "b"), numbers("c", "d", "e", "z"))
        registers, code_rows = ["r", "s"], [("number", "k", chance.randint(-2, 2))]
        for k in range(8):
            code_rows.append((chance.choice(words), f"t{k}", chance.choice(registers), chance.choice([*registers, "k"])))
            registers.append(f"t{k}")
        end = ("if", chance.choice(registers), (1, []), (2, []))
        blocks = [(numbers("r", "s"), code_rows, end), ([], [("look", 0)], ("return", "r")), ([], [("look", 1)], ("return", "r"))]
        code = Code(source, "f", blocks)
        return Backs(code, [state_of(code, k, 4, {"a": ("number", 0)}) for k in (0, 1)])

    def test_least_recipes_are_found_as_if_all_were_tried(self):
        found = 0
        for seed in range(60):
            backs = [self.arithmetic(random.Random(seed)) for _ in range(2)]
            for point, variable in itertools.product((0, 1), "cde"):
                told = least_recipe(backs[0], point, 0, variable)
                with mock.patch.object(Facts, "keeps_products", lambda facts: False):
                    self.assertEqual(least_recipe(backs[1], point, 0, variable), told)
                found += told is not None and len(told) == 3
        self.assertGreater(found, 40)

    def test_many_questions(self):
        for seed in range(40):
            one, other = [wild_backs(random.Random(seed)) for _ in range(2)]
            for point in one.code.points():
                for _ in range(2):
                    self.assertEqual(comes(one, point), comes(other, point))
                    self.assertEqual(least_recipe(one, point, 0, "a"), least_recipe(other, point, 0, "a"))
            told = mended(one)
            self.assertTrue(told is None or judge(told) == ("right",))


if __name__ == "__main__":
    unittest.main()
