import random
import unittest

from backframes.code import Code
from backframes.errors import CodeError, InvalidArgument, InvalidCode, InvalidNumber, LimitExceeded
from backframes.frames import Backs, FrameState
from backframes.judging import judge, verdict
from backframes.machine import outcome
from backframes.runs import ridden
from backframes.ways import ways
from tests.compiled import VARIABLES, compiled_backs
from tests.samples import function_source, numbers, objects, odd_things
from tests.wild import wild_backs

WORDS = ("right", "impossible", "open", "events", "far", "state", "frames")


def state_of(code, point, row, recipes, unmade=None, own=None, claims=()):
    frames = row if isinstance(row, list) else [("f", row, recipes)]
    return FrameState(code, point, frames, unmade=unmade or {}, own=own or {}, claims=list(claims))


def reg(name):
    return ("in", name)


class JudgeCase(unittest.TestCase):
    def is_right(self, backs, *rows):
        """The judge says right; rows are those of all ways, in their order."""
        self.assertEqual(judge(backs), ("right",))
        told = [verdict(backs, start, turns)[1] for start in (None, *backs.code.points()) for turns, _ in ways(backs.code, start)]
        self.assertEqual(told, list(rows) if rows else told)

    def is_wrong(self, backs, start, turns, word):
        self.assertEqual(judge(backs), ("wrong", start, turns, word))
        self.assertEqual(verdict(backs, start, turns), (word, None))


class TestNumbers(JudgeCase):
    def setUp(self):
        self.source = function_source([("add", "b", "a", "a"), ("see", "b"), ("return", "b")], numbers("a"), numbers("b"))
        rows = [("look", 0), ("add", "s", "r", "r"), ("see", "s")]
        self.code = Code(self.source, "f", [(numbers("r"), rows, ("return", "s"))])

    def backs(self, row, recipes, **parts):
        return Backs(self.code, [state_of(self.code, 0, row, recipes, **parts)])

    def test_the_example_of_the_document(self):
        good, bad = self.backs(1, {"b": ("add", reg("r"), reg("r"))}), self.backs(1, {"b": reg("r")})
        told = [judge(good), verdict(good, None, ()), judge(bad)]
        self.assertEqual(told, [("right",), ("right", 1), ("wrong", None, (), "state")])

    def test_arguments_by_name(self):
        backs = self.backs(0, {"a": reg("r")})
        self.assertEqual([judge(backs=backs), verdict(turns=(), start=0, backs=backs)], [("right",), ("right", 2)])

    def test_the_beginning_counts(self):
        self.is_right(self.backs(0, {"a": reg("r")}), 0, 2)

    def test_more_variables_than_are_wanted(self):
        self.is_right(self.backs(0, {"a": reg("r"), "b": ("number", 0)}), 0, 2)
        self.is_wrong(self.backs(0, {"a": reg("r"), "b": ("number", 1)}), None, (), "state")
        self.is_right(self.backs(1, {"a": reg("r"), "b": ("times", reg("r"), ("number", 2))}), 1, 1)

    def test_a_row_that_is_passed_already(self):
        self.is_wrong(self.backs(2, {"b": ("add", reg("r"), reg("r"))}), None, (), "events")

    def test_going_on_from_a_wrong_state(self):
        backs = self.backs(1, {"b": reg("r")})
        self.assertEqual([verdict(backs, None, ()), verdict(backs, 0, ())], [("state", None), ("events", None)])

    def test_other_results(self):
        code = Code(self.source, "f", [(numbers("r"), [("look", 0), ("add", "s", "r", "r"), ("see", "s")], ("return", "r"))])
        backs = Backs(code, [state_of(code, 0, 0, {"a": reg("r")})])
        self.is_wrong(backs, 0, (), "state")

    def test_events_that_lack_or_are_too_many(self):
        for rows, word in (([("look", 0), ("add", "s", "r", "r")], "events"), ([("look", 0), ("add", "s", "r", "r"), ("see", "s"), ("see", "s")], "events"),
                           ([("look", 0), ("add", "s", "r", "r"), ("see", "r")], "events")):
            code = Code(self.source, "f", [(numbers("r"), rows, ("return", "s"))])
            self.is_wrong(Backs(code, [state_of(code, 0, 0, {"a": reg("r")})]), 0, (), word)

    def test_code_without_points(self):
        code = Code(self.source, "f", [(numbers("r"), [("number", "n", 2), ("times", "s", "n", "r"), ("see", "s")], ("return", "s"))])
        self.is_right(Backs(code, []), 2)

    def test_claims(self):
        zero, other = ("zero", reg("r")), ("other", reg("r"))
        backs = self.backs(1, {"b": ("number", 0)}, claims=[zero])
        self.assertEqual([verdict(backs, None, ()), verdict(backs, 0, ())], [("state", None), ("right", 1)])
        self.assertEqual(verdict(self.backs(1, {"b": reg("r")}, claims=[zero, other]), 0, ()), ("impossible", None))
        self.assertEqual(verdict(self.backs(0, {"a": reg("r")}, claims=[other]), None, ()), ("state", None))
        self.is_right(self.backs(0, {"a": reg("r")}, claims=[("other", ("add", ("number", 1), ("same", reg("r"), reg("r"))))]))
        self.is_right(self.backs(0, {"a": reg("r")}, claims=[("zero", ("sub", reg("r"), reg("r")))]))

    def test_great_numbers(self):
        source = function_source([("times", "b", "a", "a"), ("times", "b", "b", "b"), ("return", "b")], numbers("a"), numbers("b"))
        rows = [("number", "n", 10 ** 9), ("times", "m", "n", "n"), ("times", "m2", "m", "m"), ("times", "m4", "m2", "m2"), ("look", 0)]
        code = Code(source, "f", [(numbers("r"), rows, ("return", "m4"))])
        deep = ("times", reg("m2"), ("times", reg("m"), reg("m")))
        self.assertEqual(verdict(Backs(code, [state_of(code, 0, 2, {"b": deep})]), 0, ()), ("right", 0))


class TestIfs(JudgeCase):
    ROWS = [("number", "z", 3), ("less", "b", "a", "z"), ("if", "b", 5), ("see", "a"), ("jump", 6), ("see", "z"), ("return", "b")]

    def setUp(self):
        self.source = function_source(self.ROWS, numbers("a"), numbers("b", "z"))

    def test_all_ways(self):
        first = [("number", "n", 3), ("less", "s", "r", "n"), ("look", 0)]
        blocks = [(numbers("r"), first, ("if", "s", (1, []), (2, []))), ([], [("see", "r")], ("return", "s")), ([], [("see", "n")], ("return", "s"))]
        code = Code(self.source, "f", blocks)
        self.is_right(Backs(code, [state_of(code, 0, 2, {"b": reg("s"), "a": reg("r"), "z": reg("n")})]), 2, 3, 2)
        self.is_right(Backs(code, [state_of(code, 0, 0, {"a": reg("r")})]), 0, 5, 4)
        blocks[0] = (numbers("r"), first, ("if", "s", (2, []), (1, [])))
        code = Code(self.source, "f", blocks)
        self.is_wrong(Backs(code, [state_of(code, 0, 0, {"a": reg("r")})]), 0, (0,), "events")

    def test_what_is_not_known(self):
        code = Code(self.source, "f", [(numbers("r"), [("number", "n", 3), ("look", 0), ("see", "r"), ("number", "o", 1)], ("return", "o"))])
        self.is_wrong(Backs(code, [state_of(code, 0, 0, {"a": reg("r")})]), 0, (), "open")

    def test_guards_tell_what_is_not_0(self):
        rows = [("number", "n", 3), ("less", "s", "r", "n"), ("guard", "s", 4), ("see", "r"), ("number", "o", 1)]
        code = Code(self.source, "f", [(numbers("r"), rows, ("return", "o"))])
        self.is_right(Backs(code, [state_of(code, 4, 0, {"a": reg("r")})]), 0, 5)
        code = Code(self.source, "f", [(numbers("r"), [*rows[:2], ("look", 4), *rows[3:]], ("return", "o"))])
        self.is_wrong(Backs(code, [state_of(code, 4, 0, {"a": reg("r")})]), 4, (), "open")

    def test_impossible_ways(self):
        rows = [("number", "n", 3), ("less", "s", "r", "n"), ("guard", "s", 4)]
        blocks = [(numbers("r"), rows, ("if", "s", (1, []), (2, []))), ([], [("see", "r"), ("number", "o", 1)], ("return", "o")), ([], [], ("return", "n"))]
        code = Code(self.source, "f", blocks)
        backs = Backs(code, [state_of(code, 4, 0, {"a": reg("r")})])
        self.is_right(backs, 0, None, 5)
        self.assertEqual([verdict(backs, 4, (0,)), verdict(backs, 4, (1,))], [("right", 5), ("impossible", None)])

    def test_guards_that_are_never_passed(self):
        code = Code(self.source, "f", [(numbers("r"), [("number", "n", 0), ("guard", "n", 4), ("see", "r")], ("return", "n"))])
        backs = Backs(code, [state_of(code, 4, 0, {"a": reg("r")})])
        self.assertEqual([verdict(backs, 4, ()), judge(backs)], [("impossible", None), ("right",)])

    def test_objects_that_are_known_to_be_unlike(self):
        """That two objects are unlike is asked behind the reading of one of them."""
        rows = [("put", "o", "item", "a"), ("put", "p", "item", "b"), ("get", "n", "o", "item"), ("return", "n")]
        source = function_source(rows, numbers("a", "b") + objects("o", "p"), numbers("n"))
        code_rows = [("put", "x", "item", "r"), ("put", "y", "item", "s"), ("get", "i", "x", "item"), ("same", "e", "x", "y")]
        blocks = [(numbers("r", "s") + objects("x", "y"), code_rows, ("if", "e", (1, []), (1, []))), ([], [], ("return", "i"))]
        code = Code(source, "f", blocks)
        self.assertEqual([verdict(Backs(code, []), None, (turn,)) for turn in (0, 1)], [("right", 3)] * 2)

    def test_claims_tell_what_is_not_passed(self):
        rows = [("number", "n", 3), ("less", "s", "r", "n")]
        behind = [("look", 1), ("see", "r"), ("number", "o", 1)]
        blocks = [(numbers("r"), rows, ("if", "s", (1, []), (2, []))), ([], behind, ("return", "o")), ([], [("see", "n")], ("return", "s"))]
        code = Code(self.source, "f", blocks)
        with_claim = Backs(code, [state_of(code, 1, 0, {"a": reg("r")}, claims=[("other", reg("s"))])])
        self.is_right(with_claim, 0, 4, 5)
        self.is_wrong(Backs(code, [state_of(code, 1, 0, {"a": reg("r")})]), 1, (), "open")
        wrong = Backs(code, [state_of(code, 1, 0, {"a": reg("r")}, claims=[("zero", reg("s"))])])
        self.is_wrong(wrong, None, (0,), "state")

    def test_what_is_known_at_the_end_is_known_from_the_beginning(self):
        """The object turns out to be nil behind what was put into it."""
        source = function_source([("return", "n")], objects("o"), numbers("n"))
        rows = [("number", "n", 0), ("put", "o", "item", "n"), ("nil", "z"), ("same", "s", "o", "z")]
        code = Code(source, "f", [(objects("o"), rows, ("if", "s", (1, []), (1, []))), ([], [], ("return", "n"))])
        backs = Backs(code, [])
        self.assertEqual([verdict(backs, None, (0,)), verdict(backs, None, (1,))], [("right", 0), ("events", None)])

    def test_results_of_calls_are_not_known_from_the_beginning(self):
        make = ("make", [], objects("c"), "object", [("return", "c")])
        body = [("call", "o", "make", []), ("put", "o", "item", "n"), ("return", "n")]
        source = function_source(body, [], objects("o") + numbers("n"), more=[make])
        rows = [("number", "n", 0), ("call", "o", "make", []), ("put", "o", "item", "n"), ("nil", "z"), ("same", "s", "o", "z")]
        code = Code(source, "f", [([], rows, ("if", "s", (1, []), (1, []))), ([], [], ("return", "n"))])
        self.assertEqual([verdict(Backs(code, []), None, (turn,)) for turn in (0, 1)], [("events", None), ("right", 2)])

    def gone_again(self, many):
        """Code in which each going tells that one more object is nil; the writes to these are nothing then."""
        names = [f"a{k}" for k in range(2, many + 2)]
        rows = [("get", name, "q", "next") for name in names]
        rows += [("number", "n", 0), ("look", 0), ("nil", "z"), ("get", "g1", "b", "next"), ("same", "s0", "g1", "z")]
        for k, name in enumerate(names):
            rows.append(("put", name, "next", "z"))
            rows.append(("get", f"g{k + 2}", "b", "next"))
        tests = [("same", f"s{k + 1}", f"g{k + 1}", name) for k, name in enumerate(names)]
        last = many + 1
        blocks = [(objects("b", "q"), rows[:20], ("if", "s0", (1, []), (last, [])))]
        blocks.append(([], rows[20:] + tests[:1], ("if", "s1", (2, []), (last, []))))
        for k in range(2, many + 1):
            blocks.append(([], tests[k - 1:k], ("if", f"s{k}", (k + 1, []), (last, []))))
        blocks.append(([], [], ("return", "n")))
        source = function_source([("return", "n")], objects("b", "q"), numbers("n"))
        code = Code(source, "f", blocks)
        return Backs(code, [state_of(code, 0, 0, {"n": reg("n")})])

    def test_a_way_that_is_gone_again_ten_times(self):
        for many in (2, 5, 9, 10):
            backs = self.gone_again(many)
            self.assertEqual(verdict(backs, 0, (0,) * (many + 1)), ("right", 0))
            self.assertEqual(verdict(backs, 0, (0,) * many + (1,)), ("events", None))


class TestLoops(JudgeCase):
    """f counts down from a and sees each number."""

    ROWS = [("number", "o", 1), ("if", "a", 5), ("see", "a"), ("sub", "a", "a", "o"), ("jump", 1), ("return", "a")]

    def setUp(self):
        self.source = function_source(self.ROWS, numbers("a"), numbers("o"))

    def code(self, ahead=(), behind=()):
        loop = [*ahead, ("see", "i"), ("sub", "j", "i", "one"), *behind]
        blocks = [(numbers("r"), [("number", "one", 1)], ("if", "r", (1, ["r"]), (2, ["r"]))),
                  (numbers("i"), loop, ("if", "j", (1, ["j"]), (2, ["j"]))), (numbers("k"), [], ("return", "k"))]
        return Code(self.source, "f", blocks)

    def test_points_in_a_loop(self):
        code = self.code(ahead=[("look", 3)])
        recipes = {"a": reg("i"), "o": reg("one")}
        self.is_right(Backs(code, [state_of(code, 3, 1, recipes, claims=[("other", reg("i"))])]), 1, 2, 4, 5)
        self.is_right(Backs(code, [state_of(code, 3, 2, recipes)]), 2, 2, 4, 4)
        self.is_wrong(Backs(code, [state_of(code, 3, 1, recipes)]), 3, (0,), "open")
        code = self.code(behind=[("look", 3)])
        self.is_right(Backs(code, [state_of(code, 3, 4, {"a": reg("j"), "o": ("number", 1)})]), 2, 4, 2, 4)
        self.is_wrong(Backs(code, [state_of(code, 3, 4, {"a": reg("i"), "o": reg("one")})]), None, (0,), "state")

    def test_a_point_to_which_it_comes_twice(self):
        """The interpreter comes to the rows of the point more than once, and is right only later."""
        source = function_source([("add", "a", "a", "o"), ("less", "b", "a", "n"), ("if", "b", 4), ("jump", 0), ("return", "a")],
                                 numbers("a"), numbers("b", "n", "o"))
        code = Code(source, "f", [(numbers("r"), [("number", "n", 7), ("look", 2), ("number", "m", 9), ("look", 5)], ("return", "m"))])
        first = state_of(code, 2, 1, {"a": ("number", 2), "n": ("number", 9), "o": ("number", 1)})
        told = [("right", 4 * 5), ("right", 4 * 6), ("state", None), ("state", None)]
        for value, word in zip((7, 8, 20, 1), told):
            backs = Backs(code, [first, state_of(code, 5, 1, {"a": ("number", value), "n": reg("m"), "o": ("number", 1)})])
            self.assertEqual(verdict(backs, 2, ()), word)

    def test_two_hundred_rows(self):
        rows = [("sub", "a", "a", "o"), ("if", "a", 3), ("jump", 0), ("return", "b")]
        source = function_source(rows, numbers("a"), numbers("b", "o"))
        code = Code(source, "f", [(numbers("r"), [("look", 2), ("number", "m", 0), ("look", 5)], ("return", "m"))])
        for count, at_return, at_jump in ((10, ("right", 29), ("right", 2)), (67, ("right", 200), ("right", 2)), (68, ("far", None), ("right", 2))):
            first = state_of(code, 2, 0, {"a": ("number", count), "o": ("number", 1), "b": ("number", 0)})
            backs = Backs(code, [first, state_of(code, 5, 3, {"b": reg("m")})])
            self.assertEqual([verdict(backs, 2, ()), verdict(backs, 5, ())], [at_return, ("right", 0)])
            recipes = {"a": ("number", count - 1), "o": ("number", 1), "b": ("number", 0)}
            self.assertEqual(verdict(Backs(code, [first, state_of(code, 5, 2, recipes)]), 2, ()), at_jump)

    def test_two_hundred_and_one_rows(self):
        rows = [("sub", "a", "a", "o"), ("if", "a", 3), ("jump", 0), ("return", "b")]
        source = function_source(rows, numbers("a"), numbers("b", "o"))
        code = Code(source, "f", [(numbers("r"), [("look", 2), ("number", "m", 0), ("look", 5)], ("return", "m"))])
        for row, word in ((0, ("right", 200)), (2, ("far", None))):
            first = state_of(code, 2, row, {"a": ("number", 67), "o": ("number", 1), "b": ("number", 0)})
            for last in (("look", 5), ("number", "z", 0)):
                other = Code(source, "f", [(numbers("r"), [("look", 2), ("number", "m", 0), last], ("return", "m"))])
                states = [FrameState(other, 2, first.frames(), unmade={}, own={}, claims=[])]
                if last == ("look", 5):
                    states.append(state_of(other, 5, 3, {"b": reg("m")}))
                self.assertEqual(verdict(Backs(other, states), 2, ()), word)

    def test_two_hundred_rows_to_a_return(self):
        rows = [("sub", "a", "a", "o"), ("if", "a", 3), ("jump", 0), ("return", "b")]
        source = function_source(rows, numbers("a"), numbers("b", "o"))
        code = Code(source, "f", [(numbers("r"), [("look", 2), ("number", "m", 0)], ("return", "m"))])
        for count, word in ((67, ("right", 200)), (68, ("far", None))):
            first = state_of(code, 2, 0, {"a": ("number", count), "o": ("number", 1), "b": ("number", 0)})
            self.assertEqual(verdict(Backs(code, [first]), 2, ()), word)

    def test_at_the_point_with_the_last_row(self):
        """After 200 rows it may still be at the point, and then it is right."""
        rows = [("add", "a", "a", "o"), ("jump", 0), ("return", "a")]
        source = function_source(rows, numbers("a"), numbers("o"))
        code = Code(source, "f", [(numbers("r"), [("look", 2), ("number", "m", 0), ("look", 5)], ("return", "m"))])
        for value, word in ((100, ("right", 200)), (101, ("state", None))):
            recipes = {"a": ("number", 0), "o": ("number", 1)}
            backs = Backs(code, [state_of(code, 2, 0, recipes), state_of(code, 5, 0, {"a": ("number", value), "o": ("number", 1)})])
            self.assertEqual(verdict(backs, 2, ()), word)
            self.assertEqual(verdict(backs, 5, ()), ("far", None))

    def test_frames(self):
        code = Code(self.source, "f", [(numbers("r"), [("number", "n", 0), ("look", 2), ("look", 5)], ("return", "n"))])
        backs = Backs(code, [state_of(code, 2, 5, {"a": reg("n")}), state_of(code, 5, 1, {"a": reg("n"), "o": reg("n")})])
        self.assertEqual(verdict(backs, 2, ()), ("frames", None))
        self.assertEqual(verdict(backs, 5, ()), ("right", 1))
        both = Backs(code, [state_of(code, 2, 5, {"a": reg("n")}), state_of(code, 5, 5, {"a": ("number", 1)})])
        self.assertEqual(verdict(both, 2, ()), ("state", None))

    def test_circles(self):
        blocks = [(numbers("r"), [], ("go", 1, [])), ([], [("look", 1)], ("if", "r", (2, []), (3, []))), ([], [("look", 0)], ("go", 1, [])), ([], [("look", 2)], ("return", "r"))]
        source = function_source([("return", "a")], numbers("a"))
        code = Code(source, "f", blocks)
        backs = Backs(code, [state_of(code, k, 0, {"a": reg("r")}) for k in (0, 1, 2)])
        self.assertEqual(judge(backs), ("circle", [0, 1]))
        judge(backs)[1].clear()
        self.assertEqual(judge(backs), ("circle", [0, 1]))
        self.assertEqual([verdict(backs, 1, (0,)), verdict(backs, 0, ()), verdict(backs, 1, (1,))], [("right", 0)] * 3)

    def test_a_point_that_goes_back_to_itself(self):
        source = function_source([("jump", 1), ("jump", 0), ("return", "a")], numbers("a"))
        code = Code(source, "f", [(numbers("r"), [], ("go", 1, [])), ([], [("look", 1)], ("go", 1, []))])
        self.assertEqual(judge(Backs(code, [state_of(code, 1, 0, {})])), ("circle", [1]))

    def test_what_is_wrong_comes_ahead_of_circles(self):
        blocks = [(numbers("r"), [], ("go", 1, [])), ([], [("look", 1)], ("if", "r", (1, []), (2, []))), ([], [("see", "r")], ("return", "r"))]
        code = Code(function_source([("return", "a")], numbers("a")), "f", blocks)
        backs = Backs(code, [state_of(code, 1, 0, {"a": reg("r")})])
        self.assertEqual(judge(backs), ("wrong", 1, (1,), "events"))


class TestCalls(JudgeCase):
    INNER = ("g", numbers("n") + objects("x"), numbers("m"), "number", [("put", "x", "item", "n"), ("add", "m", "n", "n"), ("return", "m")])
    ROWS = [("call", "b", "g", ["a", "q"]), ("see", "b"), ("return", "b")]

    def setUp(self):
        self.source = function_source(self.ROWS, numbers("a") + objects("q"), numbers("b"), more=[self.INNER])
        self.params = numbers("r") + objects("p")

    def code(self, *rows):
        return Code(self.source, "f", [(self.params, list(rows), ("return", "t"))])

    def test_calls_that_are_left(self):
        code = self.code(("look", 0), ("call", "t", "g", ["r", "p"]), ("look", 1), ("see", "t"), ("look", 2))
        states = [state_of(code, 0, 0, {"a": reg("r"), "q": reg("p")}), state_of(code, 1, 1, {"b": reg("t")}), state_of(code, 2, 2, {"b": reg("t")})]
        self.is_right(Backs(code, states), 0, 1, 1, 0)

    def test_calls_that_are_put_in(self):
        code = self.code(("look", 0), ("put", "p", "item", "r"), ("look", 1), ("add", "t", "r", "r"), ("look", 2), ("see", "t"))
        outer = {"a": reg("r"), "q": reg("p")}
        inside = state_of(code, 1, [("f", 0, outer), ("g", 1, {"n": reg("r")})], None)
        behind = state_of(code, 2, [("f", 0, {}), ("g", 2, {"m": reg("t")})], None)
        states = [state_of(code, 0, 0, outer), inside, behind]
        self.is_right(Backs(code, states), 0, 2, 1, 2)
        wrong = state_of(code, 1, [("f", 0, outer), ("g", 1, {"n": ("number", 0)})], None)
        self.is_wrong(Backs(code, [states[0], wrong, behind]), 0, (), "state")
        early = state_of(code, 1, [("f", 0, outer), ("g", 0, {"n": reg("r"), "x": reg("p")})], None)
        self.is_wrong(Backs(code, [states[0], early, behind]), 0, (), "events")

    def test_calls_of_another_function_or_other_values(self):
        other = function_source([("call", "b", "h", ["a", "q"]), ("see", "b"), ("return", "b")], numbers("a") + objects("q"), numbers("b"),
                                more=[self.INNER, ("h", *self.INNER[1:])])
        code = Code(other, "f", [(self.params, [("call", "t", "g", ["r", "p"]), ("see", "t")], ("return", "t"))])
        self.is_wrong(Backs(code, []), None, (), "events")
        code = self.code(("number", "n", 0), ("call", "t", "g", ["n", "p"]), ("see", "t"))
        self.is_wrong(Backs(code, []), None, (), "events")

    def test_values_that_are_known_to_be_the_same(self):
        code = self.code(("number", "n", 0), ("sub", "m", "n", "r"), ("sub", "m2", "n", "m"), ("call", "t", "g", ["m2", "p"]), ("see", "t"))
        self.is_right(Backs(code, []), 2)

    def test_objects_that_get_out(self):
        rows = [("new", "o", "cell"), ("put", "o", "item", "a"), ("call", "b", "g", ["a", "o"]), ("get", "a", "o", "item"), ("return", "a")]
        source = function_source(rows, numbers("a") + objects("q"), numbers("b") + objects("o"), more=[self.INNER])
        made = [("new", "c", "cell"), ("put", "c", "item", "r")]
        for inner, word in ((made, "right"), (made[:1], "events"), ([("new", "c", "box"), made[1]], "events")):
            code = Code(source, "f", [(self.params, [*inner, ("call", "t", "g", ["r", "c"]), ("get", "i", "c", "item")], ("return", "i"))])
            self.assertEqual(verdict(Backs(code, []), None, ())[0], word)
        put_in = [*made, ("put", "c", "item", "r"), ("get", "i", "c", "item")]
        code = Code(source, "f", [(self.params, put_in, ("return", "i"))])
        self.is_right(Backs(code, []), 7)

    def test_known_values_behind_a_call_are_read_anew(self):
        rows = [("put", "q", "item", "a"), ("call", "b", "g", ["b", "q"]), ("get", "b", "q", "item"), ("return", "b")]
        source = function_source(rows, numbers("a") + objects("q"), numbers("b"), more=[self.INNER])
        ahead = [("put", "p", "item", "r"), ("number", "z", 0), ("get", "early", "p", "item"), ("call", "c", "g", ["z", "p"])]
        code = Code(source, "f", [(self.params, [*ahead, ("get", "i", "p", "item")], ("return", "i"))])
        self.is_right(Backs(code, []), 3)
        code = Code(source, "f", [(self.params, ahead, ("return", "early"))])
        self.is_wrong(Backs(code, []), None, (), "state")

    def test_functions_that_call_themselves(self):
        rows = [("if", "a", 4), ("number", "one", 1), ("sub", "a", "a", "one"), ("call", "b", "f", ["a"]), ("return", "b")]
        source = function_source(rows, numbers("a"), numbers("b", "one"))
        code = Code(source, "f", [(numbers("r"), [("number", "n", 3), ("look", 0), ("number", "m", 0)], ("return", "m"))])
        self.assertEqual(verdict(Backs(code, [state_of(code, 0, 0, {"a": reg("n"), "b": ("number", 0)})]), 0, ()), ("right", 4 * 3 + 1 + 3))
        backs = Backs(code, [state_of(code, 0, 0, {"a": ("number", -1), "b": ("number", 0)})])
        self.assertEqual(verdict(backs, 0, ()), ("far", None))

    def test_a_frame_that_waits_gets_what_is_returned(self):
        code = self.code(("put", "p", "item", "r"), ("add", "t", "r", "r"), ("look", 2), ("see", "t"))
        inner = [("f", 0, {}), ("g", 2, {"m": ("add", reg("r"), reg("r"))})]
        self.is_right(Backs(code, [state_of(code, 2, inner, None)]), 3, 2)
        inner = [("f", 0, {}), ("g", 1, {"n": ("number", 1)})]
        self.assertEqual(verdict(Backs(code, [state_of(code, 2, inner, None)]), 2, ()), ("events", None))


class TestUnmade(JudgeCase):
    """f makes two objects that refer to one another; the code makes them only when it must."""

    ROWS = [("new", "o", "cell"), ("new", "p", "cell"), ("put", "o", "next", "p"), ("put", "p", "next", "o"), ("put", "p", "item", "a"), ("see", "a"),
            ("get", "p", "o", "next"), ("get", "b", "p", "item"), ("return", "b")]

    def setUp(self):
        self.source = function_source(self.ROWS, numbers("a"), numbers("b") + objects("o", "p"))
        self.code = Code(self.source, "f", [(numbers("r"), [("look", 0), ("see", "r"), ("look", 1)], ("return", "r"))])
        self.parts = {0: ("cell", {"item": ("number", 0), "next": ("unmade", 3)}), 3: ("cell", {"item": reg("r"), "next": ("unmade", 0)})}
        self.recipes = {"o": ("unmade", 0), "p": ("unmade", 3), "a": reg("r")}

    def backs(self, recipes=None, parts=None, last=None):
        first = state_of(self.code, 0, 5, recipes or self.recipes, unmade=parts or self.parts)
        return Backs(self.code, [first, last or state_of(self.code, 1, 6, {"o": ("unmade", 0)}, unmade=parts or self.parts)])

    def test_rings(self):
        self.is_right(self.backs(), 5, 1, 2)

    def test_objects_to_which_nothing_refers(self):
        self.is_right(self.backs(parts={**self.parts, 1: ("box", {"item": reg("r")})}))

    def test_wrong_fields_and_classes(self):
        for wrong in ({3: ("cell", {"item": ("number", 0), "next": ("unmade", 0)})}, {0: ("cell", {"item": ("number", 0), "next": ("nil",)})},
                      {3: ("box", {"item": reg("r")})}, {0: ("cell", {"item": ("number", 0), "next": ("unmade", 0)})}):
            self.is_wrong(self.backs(parts={**self.parts, **wrong}), None, (), "state")

    def test_one_for_each(self):
        source = function_source([("new", "o", "box"), ("new", "p", "box"), ("see", "o"), ("return", "a")], numbers("a"), objects("o", "p"))
        code = Code(source, "f", [(numbers("r"), [("look", 0), ("new", "x", "box"), ("see", "x")], ("return", "r"))])
        boxes = {0: ("box", {"item": ("number", 0)}), 1: ("box", {"item": ("number", 0)})}
        for one, other, word in ((0, 1, "right"), (1, 0, "right"), (0, 0, "state")):
            backs = Backs(code, [state_of(code, 0, 2, {"o": ("unmade", one), "p": ("unmade", other), "a": reg("r")}, unmade=boxes)])
            self.assertEqual(verdict(backs, None, ())[0], word)

    def test_two_variables_with_one_object(self):
        source = function_source([("new", "o", "box"), ("copy", "p", "o"), ("see", "o"), ("return", "a")], numbers("a"), objects("o", "p"))
        code = Code(source, "f", [(numbers("r"), [("look", 0), ("new", "x", "box"), ("see", "x")], ("return", "r"))])
        boxes = {0: ("box", {"item": ("number", 0)}), 1: ("box", {"item": ("number", 0)})}
        for one, other, word in ((0, 1, "state"), (1, 1, "right")):
            backs = Backs(code, [state_of(code, 0, 2, {"o": ("unmade", one), "p": ("unmade", other), "a": reg("r")}, unmade=boxes)])
            self.assertEqual(verdict(backs, None, ())[0], word)

    def test_nil_or_another_object_in_their_place(self):
        self.is_wrong(self.backs(recipes={**self.recipes, "o": ("nil",)}), None, (), "state")
        last = state_of(self.code, 1, 6, {"o": ("nil",)})
        self.is_wrong(self.backs(last=last), 0, (), "state")
        backs = self.backs(last=last)
        self.assertEqual(verdict(backs, 1, ()), ("state", None))

    def test_objects_of_the_code_itself(self):
        rows = [("new", "x", "cell"), ("put", "x", "item", "r"), ("look", 0), ("see", "r"), ("look", 1)]
        source = function_source([("new", "o", "cell"), ("put", "o", "item", "a"), ("see", "a"), ("get", "a", "o", "item"), ("return", "a")], numbers("a"), objects("o"))
        code = Code(source, "f", [(numbers("r"), rows, ("return", "r"))])
        own = {"x": ("cell", {"item": reg("r"), "next": ("nil",)})}
        recipes = {"o": reg("x"), "a": reg("r")}
        good = Backs(code, [state_of(code, 0, 2, recipes, own=own), state_of(code, 1, 3, {"o": reg("x")}, own=own)])
        self.is_right(good, 2, 1, 1)
        # Without own objects nothing is known of the object behind the point.
        bare = Backs(code, [state_of(code, 0, 2, recipes), state_of(code, 1, 3, {"o": reg("x")})])
        self.assertEqual([verdict(bare, None, ()), verdict(bare, 0, ()), verdict(bare, 1, ())], [("right", 2), ("right", 1), ("state", None)])

    def test_an_unmade_object_is_no_object_of_the_code(self):
        source = function_source([("new", "o", "box"), ("see", "o"), ("return", "a")], numbers("a"), objects("o"))
        code = Code(source, "f", [(numbers("r") , [("new", "x", "box"), ("look", 0), ("see", "x")], ("return", "r"))])
        box = {2: ("box", {"item": ("number", 0)})}
        self.is_right(Backs(code, [state_of(code, 0, 1, {"o": ("unmade", 2), "a": reg("r")}, unmade=box, own={"x": box[2]})]), 1, 1)
        # The interpreter sees a new object; of the code's one nothing is known behind the point, and it is seen as an old one.
        self.is_wrong(Backs(code, [state_of(code, 0, 1, {"o": ("unmade", 2), "a": reg("r")}, unmade=box)]), 0, (), "events")

    def test_what_gets_out_is_held_by_its_name(self):
        rows = [("new", "o", "cell"), ("put", "q", "next", "o"), ("put", "o", "item", "a"), ("return", "a")]
        source = function_source(rows, numbers("a") + objects("q"), objects("o"))
        code = Code(source, "f", [(numbers("r") + objects("p"), [("new", "x", "cell"), ("put", "p", "next", "x"), ("look", 0), ("put", "x", "item", "r")], ("return", "r"))])
        self.is_right(Backs(code, [state_of(code, 0, 2, {"o": reg("x"), "a": reg("r")})]), 2, 1)
        unmade = {0: ("cell", {"item": ("number", 0), "next": ("nil",)})}
        self.is_wrong(Backs(code, [state_of(code, 0, 2, {"o": ("unmade", 0), "a": reg("r")}, unmade=unmade)]), None, (), "state")


class TestOwn(JudgeCase):
    """f makes an object, and reads and writes it again and again."""

    ROWS = [("new", "o", "cell"), ("put", "o", "item", "a"), ("see", "a"), ("put", "o", "item", "b"), ("get", "b", "o", "item"), ("return", "b")]

    def setUp(self):
        self.source = function_source(self.ROWS, numbers("a") + objects("q"), numbers("b") + objects("o"))
        self.params = numbers("r") + objects("p")
        self.own = {"x": ("cell", {"item": reg("r"), "next": ("nil",)})}
        self.recipes = {"a": reg("r"), "b": ("number", 0), "o": reg("x")}

    def state(self, code, own=None, recipes=None, claims=()):
        return state_of(code, 0, 2, recipes or self.recipes, own=self.own if own is None else own, claims=claims)

    def code(self, *rows, ahead=(("new", "x", "cell"), ("put", "x", "item", "r"))):
        return Code(self.source, "f", [(self.params, [*ahead, ("look", 0), ("see", "r"), ("number", "z", 0), *rows], ("return", "z"))])

    def test_an_object_that_nothing_else_refers_to(self):
        code = self.code()
        self.is_right(Backs(code, [self.state(code)]), 2, 3)
        self.is_wrong(Backs(code, [self.state(code, own={})]), 0, (), "events")

    def test_wrong_fields_or_no_object_of_the_class(self):
        code = self.code()
        for own in ({"x": ("cell", {"item": ("number", 0), "next": ("nil",)})}, {"x": ("cell", {"item": reg("r"), "next": reg("p")})},
                    {"x": ("box", {"item": reg("r")})}, {"p": ("box", {"item": reg("r")})}):
            self.is_wrong(Backs(code, [self.state(code, own=own)]), None, (), "state")

    def test_an_object_that_got_out_is_not_own(self):
        code = self.code(ahead=[("new", "x", "cell"), ("put", "x", "item", "r"), ("put", "p", "next", "x")])
        self.assertEqual(verdict(Backs(code, [self.state(code)]), None, ())[0], "events")
        rows = [*self.ROWS[:2], ("put", "q", "next", "o"), *self.ROWS[2:]]
        source = function_source(rows, numbers("a") + objects("q"), numbers("b") + objects("o"))
        code = Code(source, "f", code.blocks())
        state = state_of(code, 0, 3, self.recipes, own=self.own)
        self.assertEqual(verdict(Backs(code, [state]), None, ()), ("state", None))

    def test_another_register_that_is_read_later(self):
        """y has the same object as x; it does not matter as long as nothing reads it."""
        ahead = [("new", "x", "cell"), ("put", "x", "item", "r"), ("new", "w", "cell"), ("put", "w", "next", "x"), ("get", "y", "w", "next")]
        self.assertEqual(verdict(self.with_state(self.code(ahead=ahead)), None, ()), ("right", 2))
        for rows in ([("put", "y", "item", "z")], [("see", "y")], [("get", "i", "y", "item")], [("see", "w")], [("get", "i", "w", "item")], [("same", "i", "y", "y")]):
            self.assertEqual(verdict(self.with_state(self.code(*rows, ahead=ahead)), None, ()), ("state", None), rows)

    def with_state(self, code):
        return Backs(code, [self.state(code)])

    def test_the_guard_itself_reads(self):
        ahead = [("new", "x", "cell"), ("put", "x", "item", "r"), ("new", "w", "cell"), ("put", "w", "next", "x"), ("get", "y", "w", "next"), ("same", "s", "y", "x")]
        for point, word in ((("look", 0), "right"), (("guard", "s", 0), "state")):
            code = Code(self.source, "f", [(self.params, [*ahead, point, ("see", "r"), ("number", "z", 0)], ("return", "z"))])
            self.assertEqual(verdict(self.with_state(code), None, ())[0], word)

    def test_what_stands_in_the_frame_state(self):
        ahead = [("new", "x", "cell"), ("put", "x", "item", "r"), ("new", "w", "cell"), ("put", "w", "next", "x"), ("get", "y", "w", "next")]
        code = self.code(ahead=ahead)
        same = ("same", reg("y"), reg("y"))
        self.assertEqual(verdict(Backs(code, [self.state(code, claims=[("other", same)])]), None, ()), ("state", None))
        self.assertEqual(verdict(Backs(code, [self.state(code, recipes={**self.recipes, "o": reg("y")})]), None, ()), ("state", None))
        unmade = {0: ("cell", {"item": ("number", 0), "next": reg("y")})}
        self.assertEqual(verdict(Backs(code, [state_of(code, 0, 2, self.recipes, own=self.own, unmade=unmade)]), None, ()), ("state", None))
        unmade = {0: ("cell", {"item": ("number", 0), "next": reg("x")})}
        self.assertEqual(verdict(Backs(code, [state_of(code, 0, 2, self.recipes, own=self.own, unmade=unmade)]), None, ()), ("right", 2))

    def test_fields_of_own_objects(self):
        ahead = [("new", "x", "cell"), ("put", "x", "item", "r"), ("new", "v", "cell"), ("put", "v", "next", "x")]
        code = self.code(ahead=ahead)
        for own, word in (({"v": ("cell", {"item": ("number", 0), "next": reg("x")})}, "right"), ({**self.own, "v": ("cell", {"item": ("number", 0), "next": reg("x")})}, "right")):
            self.assertEqual(verdict(Backs(code, [self.state(code, own=own)]), None, ())[0], word)
        both = [*ahead, ("get", "y", "v", "next")]
        code = self.code(ahead=both)
        own = {**self.own, "v": ("cell", {"item": ("number", 0), "next": reg("y")})}
        self.assertEqual(verdict(Backs(code, [self.state(code, own=own)]), None, ())[0], "state")

    def test_two_own_registers_with_one_object(self):
        ahead = [("new", "x", "cell"), ("put", "x", "item", "r"), ("new", "w", "cell"), ("put", "w", "next", "x"), ("get", "y", "w", "next")]
        code = self.code(ahead=ahead)
        self.assertEqual(verdict(Backs(code, [self.state(code, own={**self.own, "y": self.own["x"]})]), None, ()), ("state", None))

    def later(self, first_own, second_own, second_recipes, rows=()):
        """Code with a second point, at which something may refer to the object."""
        source = function_source(self.ROWS, numbers("a") + objects("q"), numbers("b") + objects("o"))
        ahead = [("new", "x", "cell"), ("put", "x", "item", "r"), ("new", "w", "cell"), ("put", "w", "next", "x"), ("get", "y", "w", "next")]
        code = Code(source, "f", [(self.params, [*ahead, ("look", 0), *rows, ("look", 1), ("see", "r"), ("number", "z", 0)], ("return", "z"))])
        return Backs(code, [self.state(code, own=first_own), state_of(code, 1, 2, second_recipes, own=second_own)])

    def test_frame_states_of_later_points(self):
        x, y = self.recipes, {**self.recipes, "o": reg("y")}
        self.assertEqual(verdict(self.later(self.own, self.own, x), None, ())[0], "right")
        self.assertEqual(verdict(self.later(self.own, {}, y), None, ())[0], "state")
        self.assertEqual(verdict(self.later(self.own, {"y": self.own["x"]}, x), None, ())[0], "state")
        self.assertEqual(verdict(self.later(self.own, self.own, x, rows=[("same", "c", "y", "x")]), None, ())[0], "state")

    def test_operands_of_what_is_computed_again(self):
        """What a register is computed from counts as read, as the judge computes it again behind the point."""
        ahead = [("new", "x", "cell"), ("put", "x", "item", "r"), ("new", "w", "cell"), ("put", "w", "next", "x"), ("get", "y", "w", "next"),
                 ("same", "s", "y", "p"), ("add", "t", "s", "s")]
        for rows, word in (([], "right"), ([("see", "s")], "state"), ([("see", "t")], "state"), ([("see", "z")], "right")):
            self.assertEqual(verdict(self.with_state(self.code(*rows, ahead=ahead)), None, ())[0], word)

    def test_what_is_made_anew_ahead_of_reading(self):
        """Round the loop y gets another object ahead of its reading."""
        rows = [("new", "o", "cell"), ("see", "a"), ("put", "o", "item", "b"), ("jump", 1)]
        source = function_source(rows, numbers("a"), numbers("b") + objects("o"))
        loop = [("look", 0), ("see", "r"), ("new", "w", "cell"), ("put", "w", "next", "x"), ("get", "y", "w", "next")]
        for read, word in (([], "right"), ([("put", "y", "item", "z")], "right")):
            body = [*loop, *read]
            code = Code(source, "f", [(numbers("r"), [("new", "x", "cell"), ("number", "z", 0)], ("go", 1, [])), ([], body, ("go", 1, []))])
            own = {"x": ("cell", {"item": ("number", 0), "next": ("nil",)})}
            backs = Backs(code, [state_of(code, 0, 1, {"a": reg("r"), "b": ("number", 0), "o": reg("x")}, own=own)])
            self.assertEqual([verdict(backs, None, ())[0], verdict(backs, 0, ())[0]], ["right", word])

    def test_own_objects_are_known_behind_the_point(self):
        rows = [("new", "o", "cell"), ("put", "o", "item", "a"), ("see", "a"), ("get", "b", "o", "item"), ("see", "b"), ("return", "a")]
        source = function_source(rows, numbers("a"), numbers("b") + objects("o"))
        code = Code(source, "f", [(numbers("r"), [("new", "x", "cell"), ("put", "x", "item", "r"), ("look", 0), ("see", "r"), ("get", "i", "x", "item"), ("see", "i")], ("return", "r"))])
        recipes = {"a": reg("r"), "o": reg("x")}
        self.is_right(Backs(code, [state_of(code, 0, 2, recipes, own=self.own)]), 2, 3)
        code = Code(source, "f", [(numbers("r"), [("new", "x", "cell"), ("put", "x", "item", "r"), ("look", 0), ("see", "r"), ("see", "r")], ("return", "r"))])
        self.is_right(Backs(code, [state_of(code, 0, 2, recipes, own=self.own)]), 2, 3)
        self.is_wrong(Backs(code, [state_of(code, 0, 2, recipes)]), 0, (), "events")


class TestRegisters(JudgeCase):
    def test_what_can_be_computed_again_is_known_behind_the_point(self):
        source = function_source([("add", "b", "a", "a"), ("see", "a"), ("return", "b")], numbers("a"), numbers("b"))
        code = Code(source, "f", [(numbers("r"), [("add", "s", "r", "r"), ("look", 0), ("see", "r")], ("return", "s"))])
        self.is_right(Backs(code, [state_of(code, 0, 1, {"a": reg("r"), "b": ("times", reg("r"), ("number", 2))})]), 1, 1)
        params = [(numbers("r"), [("add", "s", "r", "r")], ("go", 1, ["s"])), (numbers("t"), [("look", 0), ("see", "r")], ("return", "t"))]
        code = Code(source, "f", params)
        backs = Backs(code, [state_of(code, 0, 1, {"a": reg("r"), "b": ("times", reg("r"), ("number", 2))})])
        self.assertEqual([verdict(backs, None, ()), verdict(backs, 0, ())], [("right", 1), ("state", None)])

    def test_what_is_read_is_not_known_behind_the_point(self):
        source = function_source([("get", "b", "q", "item"), ("see", "b"), ("return", "b")], objects("q"), numbers("b"))
        code = Code(source, "f", [(objects("p"), [("get", "i", "p", "item"), ("look", 0), ("see", "i")], ("return", "i"))])
        self.is_right(Backs(code, [state_of(code, 0, 1, {"b": reg("i")})]), 1, 1)
        self.assertEqual(verdict(Backs(code, [state_of(code, 0, 0, {"q": reg("p")})]), 0, ()), ("events", None))

    def test_registers_that_are_swapped(self):
        source = function_source([("sub", "c", "a", "b"), ("return", "c")], numbers("a", "b"), numbers("c"))
        code = Code(source, "f", [(numbers("r", "s"), [], ("go", 1, ["s", "r"])), (numbers("t", "u"), [("sub", "d", "u", "t"), ("look", 0)], ("return", "d"))])
        self.is_right(Backs(code, [state_of(code, 0, 0, {"a": reg("r"), "b": ("sub", reg("r"), reg("d"))})]), 0, 1)
        self.is_right(Backs(code, [state_of(code, 0, 1, {"c": reg("d")})]), 1, 0)

    def test_goals_give_all_values_at_once(self):
        source = function_source([("copy", "c", "a"), ("copy", "a", "b"), ("copy", "b", "c"), ("see", "a"), ("jump", 0), ("return", "a")], numbers("a", "b"), numbers("c"))
        code = Code(source, "f", [(numbers("r", "s"), [], ("go", 1, ["r", "s"])), (numbers("t", "u"), [("look", 0), ("see", "u")], ("go", 1, ["u", "t"]))])
        self.is_right(Backs(code, [state_of(code, 0, 0, {"a": reg("t"), "b": reg("u")})]), 0, 5)

    def test_same_of_objects(self):
        rows = [("new", "o", "box"), ("same", "b", "o", "q"), ("if", "b", 4), ("see", "q"), ("return", "b")]
        source = function_source(rows, objects("q"), numbers("b") + objects("o"))
        code = Code(source, "f", [(objects("p"), [("number", "z", 0), ("look", 0)], ("return", "z"))])
        self.is_right(Backs(code, [state_of(code, 0, 0, {"q": reg("p")})]), 0, 3)
        box = {0: ("box", {"item": ("number", 0)})}
        told = {"b": ("same", ("unmade", 0), reg("p")), "q": reg("p"), "o": ("unmade", 0)}
        self.is_right(Backs(code, [state_of(code, 0, 2, told, unmade=box)]), 2, 1)


class TestJudge(JudgeCase):
    def test_the_first_way_that_is_wrong(self):
        source = function_source([("return", "a")], numbers("a"))
        blocks = [(numbers("r"), [("look", 7), ("look", 3)], ("if", "r", (1, []), (2, []))), ([], [("see", "r")], ("return", "r")), ([], [], ("return", "r"))]
        code = Code(source, "f", blocks)
        good = {k: state_of(code, k, 0, {"a": reg("r")}) for k in (3, 7)}
        bad = {k: state_of(code, k, 0, {"a": ("number", 1)}) for k in (3, 7)}
        for states, told in (([good[3], good[7]], (3, (0,), "events")), ([bad[3], bad[7]], (None, (), "state")), ([bad[3], good[7]], (3, (1,), "state"))):
            self.assertEqual(judge(Backs(code, states)), ("wrong", *told))
        self.assertEqual([verdict(Backs(code, [bad[3], good[7]]), 7, ()), verdict(Backs(code, [bad[3], good[7]]), 3, (0,))], [("state", None), ("events", None)])

    def test_wrong_arguments(self):
        code = Code(function_source([("return", "a")], numbers("a")), "f", [(numbers("r"), [("look", 3)], ("return", "r"))])
        backs = Backs(code, [state_of(code, 3, 0, {"a": reg("r")})])
        for odd in odd_things():
            if not isinstance(odd, Backs):
                for call in (lambda: judge(odd), lambda: verdict(odd, odd, odd), lambda: verdict(odd, None, ())):
                    with self.assertRaises(InvalidCode) as caught:
                        call()
                    self.assertEqual((caught.exception.part, caught.exception.at), ("backs", None))
            if odd is not None:
                with self.assertRaises(InvalidNumber) as caught:
                    verdict(backs, odd, odd)
                self.assertIs(caught.exception.number, odd)
            if odd != ():
                with self.assertRaises(InvalidArgument) as caught:
                    verdict(backs, 3, odd)
                self.assertEqual(caught.exception.part, "turns")
        for turns in ((0,), [], (False,), (0.0,)):
            with self.assertRaises(InvalidArgument):
                verdict(backs, None, turns)
        self.assertEqual(verdict(backs, None, ()), ("right", 0))

    def diamonds(self, many, rows=0):
        """Code with so many ifs in a row, each of which goes to the next block both ways."""
        source = function_source([("return", "a")], numbers("a"))
        blocks = [(numbers("r"), [("look", 0)], ("go", 1, ["r"]))]
        for k in range(1, many + 1):
            body = [("number", f"n{k}x{j}", j) for j in range(rows)]
            blocks.append((numbers(f"p{k}"), body, ("if", f"p{k}", (k + 1, ["r"]), (k + 1, ["r"]))))
        blocks.append((numbers("last"), [("look", 1)], ("return", "r")))
        code = Code(source, "f", blocks)
        return Backs(code, [state_of(code, k, 0, {"a": reg("r")}) for k in (0, 1)])

    def test_limits_of_ways(self):
        backs = self.diamonds(7)
        self.assertEqual(len(ways(backs.code, 0)), 128)
        self.is_right(backs)
        told = [verdict(backs, 0, turns)[0] for turns, _ in ways(backs.code, 0)]
        self.assertEqual([told.count("right"), told.count("impossible")], [2, 126])
        for raised in (lambda: judge(self.diamonds(8)), lambda: verdict(self.diamonds(8), 0, (0,) * 8), lambda: verdict(self.diamonds(8), 0, "x")):
            with self.assertRaises(LimitExceeded) as caught:
                raised()
            self.assertEqual(caught.exception.limit, 200)
        self.assertEqual(verdict(self.diamonds(8), None, ()), ("right", 0))
        self.assertEqual(verdict(self.diamonds(8), 1, ()), ("right", 0))

    def test_limits_come_ahead_of_what_is_wrong(self):
        backs = self.diamonds(8)
        wrong = Backs(backs.code, [state_of(backs.code, k, 0, {"a": ("number", 5)}) for k in (0, 1)])
        self.assertEqual(verdict(wrong, None, ()), ("state", None))
        with self.assertRaises(LimitExceeded):
            judge(wrong)

    def test_sixty_rows(self):
        source = function_source([("return", "a")], numbers("a"))
        for many in (18, 19, 20):
            rows = [[("number", f"n{k}x{j}", j) for j in range(18)] for k in range(2)] + [[("number", f"m{j}", j) for j in range(many)]]
            blocks = [(numbers("r"), [("look", 0)], ("go", 1, []))] + [([], rows[k], ("go", k + 2, [])) for k in range(3)] + [([], [], ("return", "r"))]
            code = Code(source, "f", blocks)
            backs = Backs(code, [state_of(code, 0, 0, {"a": ("number", 1)})])
            self.assertEqual(verdict(backs, None, ()), ("state", None))
            if many < 20:
                self.is_wrong(backs, None, (), "state")
                continue
            for raised in (lambda: judge(backs), lambda: verdict(backs, 0, ())):
                with self.assertRaises(LimitExceeded) as caught:
                    raised()
                self.assertEqual(caught.exception.limit, 60)

    def test_equal_frame_states_are_judged_alike(self):
        for seed in range(40):
            one, other = [wild_backs(random.Random(seed)) for _ in range(2)]
            for start in (None, *one.code.points()):
                for turns, _ in ways(one.code, start):
                    told = verdict(one, start, turns)
                    self.assertEqual([verdict(one, start, turns), verdict(other, start, turns)], [told, told])
                    self.assertIn(told[0], WORDS)
                    self.assertEqual(told[1] is None, told[0] != "right")
            self.assertEqual(judge(one), judge(other))


def tells_the_same(backs, arguments, choice):
    """Whether the whole run of the code has the log and the result of the interpreter; None if one raises an error."""
    try:
        told = outcome(backs.code.source, "f", arguments)
        result, log, _ = ridden(backs, arguments, choice=choice)
    except CodeError:
        return None
    return told[1] == log and told[0] == result


def with_other_recipe(chance, backs):
    """The same code with another recipe for one variable, or for one field of an unmade or own object."""
    states = backs.states()
    at = chance.randrange(len(states))
    frames, unmade, own = states[at].frames(), states[at].unmade(), states[at].own()
    of_own = [fields for _, fields in own.values()]
    recipes = chance.choice([table for table in [*[frame[2] for frame in frames], *[fields for _, fields in unmade.values()], *of_own] if table])
    name = chance.choice(list(recipes))
    kind = {**VARIABLES, "n": "number", "m": "number", "item": "number"}.get(name, "object")
    names = [register for register in backs.code.usable(states[at].point) if backs.code.kinds()[register] == kind]
    choices = [reg(register) for register in names]
    if kind == "object":
        choices.extend([("nil",), *([] if any(recipes is fields for fields in of_own) else [("unmade", k) for k in unmade] * 2)])
    recipes[name] = chance.choice(choices)
    if kind == "number" and chance.random() < 0.4:
        recipes[name] = (chance.choice(["add", "sub", "times", "less", "same"]), reg(chance.choice(names)), reg(chance.choice(names)))
    states[at] = state_of(backs.code, states[at].point, frames, None, unmade=unmade, own=own)
    return Backs(backs.code, states)


class TestFacts(unittest.TestCase):
    def check(self, backs):
        """Fact 77: what the judge calls right has the log and the result of the interpreter, wherever it goes back."""
        told = judge(backs)
        if told == ("right",):
            for number in (-1, 0, 1, 2):
                for choice in [None, *[(point, visit) for point in backs.code.points() for visit in (0, 1)]]:
                    self.assertIsNot(tells_the_same(backs, [number, None], choice), False)
        return told[0] if told[0] != "wrong" else told[3]

    def test_right_frame_states_are_called_right(self):
        words = [self.check(compiled_backs(random.Random(seed))) for seed in range(260)]
        self.assertEqual(set(words), {"right", "circle"})
        self.assertGreater(words.count("right"), 200)

    def test_frame_states_with_another_recipe(self):
        words = []
        for seed in range(260):
            chance = random.Random(seed)
            backs = compiled_backs(chance)
            if backs.code.points():
                words.append(self.check(with_other_recipe(chance, backs)))
        for word in ("right", "state", "events"):
            self.assertGreater(words.count(word), 3, word)

    def test_objects_that_are_not_made_and_own_ones(self):
        for compiler in ("thrifty", "owner"):
            words, with_objects = [], 0
            for seed in range(200):
                backs = compiled_backs(random.Random(seed), compiler=compiler)
                with_objects += any(state.unmade() or state.own() for state in backs.states())
                words.append(self.check(backs))
            self.assertEqual(set(words), {"right", "circle"})
            self.assertGreater(with_objects, 40)

    def test_such_objects_with_another_recipe(self):
        for compiler in ("thrifty", "owner"):
            words = []
            for seed in range(200):
                chance = random.Random(seed)
                backs = compiled_backs(chance, compiler=compiler)
                if backs.code.points():
                    words.append(self.check(with_other_recipe(chance, backs)))
            for word, many in (("right", 20), ("state", 20), ("events", 1)):
                self.assertGreater(words.count(word), many, word)

    def test_any_code(self):
        for seed in range(80):
            self.check(wild_backs(random.Random(seed)))

    def test_what_is_not_right_can_be_the_same(self):
        source = function_source([("see", "a"), ("return", "a")], numbers("a"))
        code = Code(source, "f", [(numbers("r"), [("look", 0), ("see", "r")], ("return", "r"))])
        backs = Backs(code, [state_of(code, 0, 0, {"a": ("sub", ("times", reg("r"), reg("r")), ("times", reg("r"), ("sub", reg("r"), ("number", 1))))})])
        self.assertEqual(judge(backs), ("right",))
        less = ("less", ("times", reg("r"), reg("r")), ("number", 0))
        backs = Backs(code, [state_of(code, 0, 0, {"a": ("add", reg("r"), less)})])
        self.assertEqual(judge(backs), ("wrong", None, (), "state"))
        self.assertTrue(all(tells_the_same(backs, [number], (0, 0)) for number in range(-3, 4)))


if __name__ == "__main__":
    unittest.main()
