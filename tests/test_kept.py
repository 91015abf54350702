import itertools
import random
import unittest

from backframes.code import Code
from backframes.errors import InvalidArgument, InvalidCode, InvalidNumber, LimitExceeded
from backframes.frames import Backs, FrameState, built
from backframes.kept import farthest_kept, kept_paths, least_kept, live, made_for, restated, serves, shows
from backframes.source import Source
from tests.samples import all_backs, all_code, function_source, numbers, objects, odd_things

AGAIN = ("number", "nil", "add", "sub", "times", "less", "same")
ADDS = [("add", "c", "a", "b"), ("see", "c"), ("return", "c")]


def example():
    source = Source([], [("f", numbers("a", "b"), numbers("c"), "number", ADDS)])
    rows = [("add", "t", "p", "q"), ("times", "u", "t", "t"), ("look", 0), ("number", "n", 7)]
    code = Code(source, "f", [(numbers("p", "q"), rows, ("return", "n"))])
    return Backs(code, [FrameState(code, 0, [("f", 1, {"c": ("in", "u")})], unmade={}, own={}, claims=[])])


def backs_of(rows, frames, params=numbers("p", "q"), end=("return", "zero"), more=(), unmade=None, own=None, claims=()):
    """One point, 0, behind these rows of block 0, in code of a function with 8 variables and parameters."""
    variables = numbers("a", "b", "c", "d", "e", "f") + objects("u", "v")
    source_rows = [("see", name) for name, _ in variables] + [("return", "a")]
    kinds = [kind for _, kind in params]
    source = function_source(source_rows, list(zip("hijk", kinds)), variables, "number")
    code = Code(source, "f", [(list(params), [*rows, ("look", 0), ("number", "zero", 0)], end), *more])
    state = FrameState(code, 0, [("f", 8, {"a": ("number", 0), **frames})], unmade=unmade or {}, own=own or {}, claims=list(claims))
    return Backs(code, [state])


def reading(**recipes):
    return {name: ("in", recipe) for name, recipe in recipes.items()}


class TestExample(unittest.TestCase):
    def test_the_example_of_the_document(self):
        backs = example()
        told = [least_kept(backs, 0), farthest_kept(backs, 0), least_kept(backs, 0, weights={"t": 3, "u": 9})]
        self.assertEqual(told, [(1, ["u"]), (1, ["t"]), (2, ["p", "q"])])
        self.assertEqual(len(kept_paths(backs, 0)), 1)
        self.assertEqual(restated(backs, 0, ["t"]).frames(), [("f", 1, {"c": ("times", ("in", "t"), ("in", "t"))})])
        self.assertEqual(made_for(backs)["t"], "points")

    def test_arguments_by_name(self):
        backs = example()
        self.assertEqual(live(point=0, code=backs.code), [])
        self.assertTrue(serves(registers=["u"], point=0, backs=backs))
        self.assertEqual(least_kept(weights={"u": 2}, point=0, backs=backs), (1, ["t"]))
        self.assertEqual(farthest_kept(weights=None, point=0, backs=backs), (1, ["t"]))
        self.assertTrue(shows(paths=kept_paths(point=0, backs=backs), point=0, backs=backs))
        self.assertEqual(restated(registers=["u"], point=0, backs=backs).registers(), ["u"])
        self.assertEqual(made_for(backs=backs)["n"], "code")
        for ask in (least_kept, farthest_kept):
            with self.assertRaises(TypeError):
                ask(backs, 0, None)


class TestLive(unittest.TestCase):
    def test_rows_of_each_form(self):
        code = all_code()
        self.assertEqual(live(code, 2), ["k"])
        self.assertEqual(live(code, 7), ["c", "i", "x"])

    def test_what_is_read_at_the_point_itself_is_not_behind_it(self):
        source = function_source([("return", "a")], numbers("a"))
        code = Code(source, "f", [(numbers("r"), [("number", "s", 1), ("guard", "r", 0), ("look", 1)], ("return", "s"))])
        self.assertEqual([live(code, 0), live(code, 1)], [["s"], ["s"]])

    def test_guards_behind_the_point_and_round_a_loop(self):
        source = function_source([("return", "a")], numbers("a"))
        rows = [("number", "s", 1), ("look", 0), ("guard", "r", 1)]
        code = Code(source, "f", [(numbers("r"), rows, ("return", "s"))])
        self.assertEqual([live(code, 0), live(code, 1)], [["r", "s"], ["s"]])
        loop = [([("r", "number")], [], ("go", 1, [])), ([], [("guard", "r", 1)], ("if", "r", (1, []), (2, []))),
                ([], [("number", "s", 1)], ("return", "s"))]
        self.assertEqual(live(Code(source, "f", loop), 1), ["r"])
        loop[1] = ([], [("guard", "r", 1), ("number", "q", 1)], ("if", "q", (1, []), (2, [])))
        self.assertEqual(live(Code(source, "f", loop), 1), ["r"])
        loop[1] = ([], [("guard", "r", 1), ("number", "q", 1)], ("go", 2, []))
        self.assertEqual(live(Code(source, "f", loop), 1), [])

    def test_what_is_made_anew(self):
        source = function_source([("return", "a")], numbers("a"))
        blocks = [
            (numbers("r"), [("number", "s", 1)], ("go", 1, ["r"])),
            (numbers("x"), [("add", "y", "x", "s"), ("look", 0)], ("if", "s", (1, ["y"]), (2, []))),
            ([], [], ("return", "s")),
        ]
        self.assertEqual(live(Code(source, "f", blocks), 0), ["s", "y"])
        blocks[1] = (numbers("x"), [("look", 0), ("add", "y", "x", "s")], ("if", "s", (1, ["y"]), (2, [])))
        self.assertEqual(live(Code(source, "f", blocks), 0), ["s", "x"])
        blocks[1] = (numbers("x"), [("look", 0), ("see", "x")], ("if", "s", (1, ["r"]), (2, [])))
        self.assertEqual(live(Code(source, "f", blocks), 0), ["r", "s", "x"])

    def test_whichever_goals_ifs_take(self):
        source = function_source([("return", "a")], numbers("a"))
        ends = [("if", "r", (1, []), (2, []))]
        blocks = [
            (numbers("r"), [("number", name, 1) for name in "stuv"] + [("look", 0)], ends[0]),
            ([], [("see", "s")], ("return", "u")),
            ([], [("see", "t")], ("return", "u")),
        ]
        self.assertEqual(live(Code(source, "f", blocks), 0), ["r", "s", "t", "u"])

    def test_frame_states_of_other_points_do_not_count(self):
        source = function_source([("return", "a")], numbers("a"))
        code = Code(source, "f", [(numbers("r"), [("number", "s", 1), ("look", 0), ("look", 1)], ("return", "r"))])
        FrameState(code, 1, [("f", 0, {"a": ("in", "s")})], unmade={}, own={}, claims=[])
        self.assertEqual(live(code, 0), ["r"])

    def test_wrong_arguments(self):
        for thing in odd_things():
            if not isinstance(thing, Code):
                with self.assertRaises(InvalidCode) as caught:
                    live(thing, None)
                self.assertEqual((caught.exception.part, caught.exception.at), ("code", None))
        for thing in [*odd_things(), 0, -1, "2", [2]]:
            with self.assertRaises(InvalidNumber) as caught:
                live(all_code(), thing)
            self.assertIs(caught.exception.number, thing)

    def test_what_is_returned_is_new(self):
        code = all_code()
        live(code, 2).clear()
        self.assertEqual(live(code, 2), ["k"])


class TestServes(unittest.TestCase):
    def test_what_serves(self):
        backs = example()
        for names, told in ((["u"], True), (["t"], True), (["p", "q"], True), (["p"], False), (["q"], False), ([], False),
                            (["p", "u"], True), (["p", "p"], False), (["q", "p", "q"], True), (["u", "t", "p", "q"], True)):
            self.assertIs(serves(backs, 0, names), told, names)

    def test_numbers_and_nil_come_from_nothing(self):
        rows = [("number", "n", 3), ("nil", "o"), ("add", "m", "n", "n"), ("same", "s", "o", "o")]
        backs = backs_of(rows, reading(a="m", b="s", u="o", c="n"))
        self.assertTrue(serves(backs, 0, []))
        self.assertEqual([least_kept(backs, 0), farthest_kept(backs, 0), kept_paths(backs, 0)], [(0, []), (0, []), []])

    def test_each_operation_can_be_computed_again(self):
        for word in AGAIN[2:]:
            backs = backs_of([(word, "r", "p", "q")], reading(a="r"))
            self.assertEqual([serves(backs, 0, names) for names in (["p", "q"], ["p"], ["r"])], [True, False, True])

    def test_leaves(self):
        rows = [("new", "n", "cell"), ("get", "g", "n", "item"), ("get", "h", "n", "next"), ("call", "k", "f", ["p", "q"])]
        for name, recipes in (("n", reading(u="n")), ("g", reading(a="g")), ("h", reading(u="h")), ("k", reading(a="k")), ("p", reading(a="p"))):
            backs = backs_of(rows, recipes)
            for kept in ("n", "g", "h", "k", "p"):
                self.assertIs(serves(backs, 0, [kept]), kept == name, (kept, name))
            self.assertEqual([least_kept(backs, 0), farthest_kept(backs, 0)], [(1, [name])] * 2)
            self.assertEqual(kept_paths(backs, 0), [[name]])

    def test_live_registers_need_not_be_kept(self):
        rows = [("add", "t", "p", "q"), ("add", "u", "t", "q")]
        for end, least, farthest in ((("return", "p"), ["u"], ["q"]), (("return", "t"), ["u"], ["q"]), (("return", "u"), [], [])):
            backs = backs_of(rows, reading(a="u"), end=end)
            self.assertEqual([least_kept(backs, 0)[1], farthest_kept(backs, 0)[1]], [least, farthest])
            self.assertTrue(serves(backs, 0, least) and serves(backs, 0, farthest))
            self.assertIs(serves(backs, 0, []), least == [])
            self.assertTrue(serves(backs, 0, ["t", "q"]))

    def test_own_objects_and_claims_want_nothing(self):
        own = {"n": ("cell", {"item": ("in", "p"), "next": ("nil",)})}
        backs = backs_of([("new", "n", "cell")], {}, own=own, claims=[("zero", ("in", "q"))])
        self.assertEqual((least_kept(backs, 0), serves(backs, 0, [])), ((0, []), True))

    def test_unmade_objects_want_what_they_are_made_of(self):
        unmade = {3: ("cell", {"item": ("sub", ("in", "p"), ("number", 1)), "next": ("unmade", 3)})}
        backs = backs_of([], {}, unmade=unmade)
        self.assertEqual([least_kept(backs, 0), serves(backs, 0, []), serves(backs, 0, ["p"])], [(1, ["p"]), False, True])

    def test_wrong_registers(self):
        backs = backs_of([("add", "t", "p", "q")], reading(a="t"))
        for names in (["zero"], ["t", "zz"], ["t", None], ["t", 1], ["t", ["t"]], ("t",), {"t": 1}, "t", None, [True], ["T"]):
            for ask in (serves, restated):
                with self.assertRaises(InvalidArgument) as caught:
                    ask(backs, 0, names)
                self.assertEqual(caught.exception.part, "registers")
        for thing in odd_things():
            for ask in (serves, restated):
                for names in (thing, ["t", thing]):
                    with self.assertRaises(InvalidArgument) as caught:
                        ask(backs, 0, names)
                    self.assertEqual(caught.exception.part, "registers")


class TestWrong(unittest.TestCase):
    ASKS = (
        lambda backs, point: serves(backs, point, None), lambda backs, point: least_kept(backs, point, weights=0),
        lambda backs, point: farthest_kept(backs, point, weights=0), kept_paths,
        lambda backs, point: shows(backs, point, None), lambda backs, point: restated(backs, point, None),
    )

    def test_no_backs(self):
        for thing in odd_things():
            for ask in (*self.ASKS, lambda backs, point: made_for(backs)):
                if not isinstance(thing, Backs):
                    with self.assertRaises(InvalidCode) as caught:
                        ask(thing, None)
                    self.assertEqual((caught.exception.part, caught.exception.at), ("backs", None))

    def test_no_point(self):
        for thing in [*odd_things(), 1, -1, "0", [0]]:
            for ask in self.ASKS:
                with self.assertRaises(InvalidNumber) as caught:
                    ask(example(), thing)
                self.assertIs(caught.exception.number, thing)

    def test_weights(self):
        backs = example()
        for ask in (least_kept, farthest_kept):
            for weights in ({}, {"n": 1}, {"n": 1000, "p": 1}, {"t": 1, "u": 1}):
                self.assertEqual(ask(backs, 0, weights=weights), ask(backs, 0))
            self.assertEqual(ask(backs, 0, weights={"t": 1000, "u": 1000, "p": 1000, "q": 999}), (1000, ask(backs, 0)[1]))
            self.assertEqual(ask(backs, 0, weights={"t": 1000, "u": 1000, "p": 998, "q": 1}), (999, ["p", "q"]))
            wrong = [{"t": 0}, {"t": 1001}, {"t": -1}, {"t": True}, {"t": None}, {"t": 1.0}, {"t": "1"}, {"zz": 1}, {1: 1},
                     {None: 1}, {("t",): 1}, {"t": 1, "T": 1}, [], [("t", 1)], (), "t", 1, False, {"t": [1]}]
            for weights in wrong:
                with self.assertRaises(InvalidArgument) as caught:
                    ask(backs, 0, weights=weights)
                self.assertEqual(caught.exception.part, "weights")
            for thing in odd_things():
                for weights in ([{"t": thing}] if thing is None else [thing, {"t": thing}]):
                    with self.assertRaises(InvalidArgument) as caught:
                        ask(backs, 0, weights=weights)
                    self.assertEqual(caught.exception.part, "weights")

    def test_weights_are_not_changed(self):
        weights = {"t": 3, "u": 9}
        least_kept(example(), 0, weights=weights)
        self.assertEqual(weights, {"t": 3, "u": 9})


class TestPaths(unittest.TestCase):
    def test_what_shows(self):
        backs = example()
        for paths in ([], [["p", "t", "u"]], [["q", "t", "u"]]):
            self.assertIs(shows(backs, 0, paths), True, paths)
        wrong = [
            [["u"]], [["t", "u"]], [["p", "t"]], [["p", "u"]], [["p", "q", "t", "u"]], [["p"]], [[]], [["p", "t", "u"], []],
            [["p", "t", "u"], ["q", "t", "u"]], [["p", "t", "u"], ["p", "t", "u"]], [("p", "t", "u")], (["p", "t", "u"],),
            ["p", "t", "u"], {}, None, 1, "ptu", ["ptu"], [["p", "t", "u", "u"]], [["p", "p", "t", "u"]], [["u", "t", "p"]],
            [["p", "t", None]], [[["p"], "t", "u"]], [["p", "t", "zz"]], [["n"]], [["n", "u"]], [None],
        ]
        for paths in [*wrong, *odd_things()]:
            self.assertIs(shows(backs, 0, paths), False, paths)
        for thing in odd_things():
            for paths in ([thing], [[thing]], [[thing, "t", "u"]], [["p", thing, "u"]], [["p", "t", thing]]):
                self.assertIs(shows(backs, 0, paths), False)

    def test_live_registers_are_on_no_path(self):
        rows = [("add", "t", "p", "q"), ("add", "u", "t", "q")]
        backs = backs_of(rows, reading(a="u", b="p"), end=("return", "t"))
        told = [shows(backs, 0, paths) for paths in ([["p", "t", "u"]], [["q", "t", "u"]], [["q", "u"]], [["t", "u"]], [["p"]], [["p"], ["q", "u"]])]
        self.assertEqual(told, [False, False, True, False, True, True])
        backs = backs_of(rows, reading(a="u", b="t"), end=("return", "t"))
        self.assertEqual([shows(backs, 0, [["p", "t"]]), shows(backs, 0, [["q", "u"]])], [False, True])

    def test_a_path_may_pass_what_is_wanted(self):
        backs = backs_of([("add", "t", "p", "p"), ("add", "u", "t", "t")], reading(a="u", b="t"))
        self.assertEqual([shows(backs, 0, paths) for paths in ([["p", "t"]], [["p", "t", "u"]])], [True, True])

    def test_numbers_are_no_leaves(self):
        backs = backs_of([("number", "n", 1), ("add", "u", "n", "p")], reading(a="u", b="n"))
        self.assertEqual([shows(backs, 0, paths) for paths in ([["n"]], [["n", "u"]], [["p", "u"]])], [False, False, True])

    def test_leaves_stand_first_alone(self):
        backs = backs_of([("new", "n", "cell"), ("get", "g", "n", "item"), ("add", "u", "g", "g")], reading(a="u", v="n"))
        self.assertEqual([shows(backs, 0, paths) for paths in ([["n", "g", "u"]], [["g", "u"]], [["n"]])], [False, True, True])
        self.assertEqual(sorted(kept_paths(backs, 0)), [["g", "u"], ["n"]])

    def test_registers_that_do_not_stand_there(self):
        source = function_source([("return", "a")], numbers("a"))
        rows = [("look", 0), ("add", "s", "r", "r"), ("look", 1)]
        code = Code(source, "f", [(numbers("r"), rows, ("return", "r"))])
        states = [FrameState(code, 0, [("f", 0, {"a": ("in", "r")})], unmade={}, own={}, claims=[])]
        states.append(FrameState(code, 1, [("f", 0, {"a": ("in", "s")})], unmade={}, own={}, claims=[]))
        backs = Backs(code, states)
        self.assertEqual([shows(backs, 0, [["s"]]), shows(backs, 1, [["s"]]), kept_paths(backs, 1)], [False, False, []])

    def test_what_is_returned_is_new(self):
        backs = example()
        kept_paths(backs, 0)[0].clear()
        kept_paths(backs, 0).clear()
        least_kept(backs, 0)[1].clear()
        self.assertEqual((len(kept_paths(backs, 0)[0]), least_kept(backs, 0)), (3, (1, ["u"])))


class TestRestated(unittest.TestCase):
    def test_frames_and_unmade_objects(self):
        rows = [("number", "n", -4), ("nil", "o"), ("less", "t", "p", "n"), ("same", "s", "o", "o"), ("sub", "u", "t", "s")]
        unmade = {2: ("cell", {"item": ("add", ("in", "u"), ("in", "p")), "next": ("in", "o")})}
        own = {"c": ("cell", {"item": ("in", "u"), "next": ("in", "o")})}
        frames = {**reading(a="u", u="o"), "b": ("times", ("in", "t"), ("number", 2)), "v": ("unmade", 2)}
        backs = backs_of([*rows, ("new", "c", "cell")], frames, unmade=unmade, own=own, claims=[("zero", ("in", "t"))])
        t = ("less", ("in", "p"), ("number", -4))
        s = ("same", ("nil",), ("nil",))
        state = restated(backs, 0, ["p"])
        self.assertEqual(state.frames(), [
            ("f", 8, {"a": ("sub", t, s), "u": ("nil",), "b": ("times", t, ("number", 2)), "v": ("unmade", 2)}),
        ])
        self.assertEqual(state.unmade(), {2: ("cell", {"item": ("add", ("sub", t, s), ("in", "p")), "next": ("nil",)})})
        self.assertEqual((state.own(), state.claims()), (own, [("zero", ("in", "t"))]))
        self.assertEqual((state.point, state.code == backs.code, state.registers()), (0, True, ["p"]))
        state = restated(backs, 0, ["p", "t", "o"])
        s = ("same", ("in", "o"), ("in", "o"))
        self.assertEqual(state.frames()[0][2]["a"], ("sub", ("in", "t"), s))
        self.assertTrue(restated(backs, 0, ["p", "u", "o", "t"]) == backs.state_at(0))

    def test_live_registers_stay(self):
        rows = [("add", "t", "p", "q"), ("add", "u", "t", "t")]
        backs = backs_of(rows, reading(a="u", b="t"), end=("return", "t"))
        self.assertEqual(restated(backs, 0, []).frames()[0][2], {"a": ("add", ("in", "t"), ("in", "t")), "b": ("in", "t")})

    def test_all_frames(self):
        rows = [("call", "c", "f", ["a", "b"]), ("return", "c")]
        source = Source([], [("f", numbers("a", "b"), numbers("c"), "number", rows)])
        code = Code(source, "f", [(numbers("p", "q"), [("add", "t", "p", "q"), ("look", 0)], ("return", "q"))])
        frames = [("f", 0, reading(a="t")), ("f", 0, {}), ("f", 1, reading(c="t"))]
        backs = Backs(code, [FrameState(code, 0, frames, unmade={}, own={}, claims=[])])
        t = ("add", ("in", "p"), ("in", "q"))
        self.assertEqual(restated(backs, 0, ["p"]).frames(), [("f", 0, {"a": t}), ("f", 0, {}), ("f", 1, {"c": t})])
        with self.assertRaises(InvalidArgument):
            restated(backs, 0, [])

    def test_what_does_not_serve(self):
        for names in ([], ["p"], ["q"]):
            with self.assertRaises(InvalidArgument) as caught:
                restated(example(), 0, names)
            self.assertEqual(caught.exception.part, "registers")

    def chain(self, many, around=0, double=False):
        rows = [("add", "r1", "p", "p" if double else "q")]
        rows += [("add", f"r{k}", f"r{k - 1}", f"r{k - 1}" if double else "q") for k in range(2, many + 1)]
        recipe = ("in", f"r{many}")
        for _ in range(around):
            recipe = ("sub", ("number", 1), recipe)
        return rows, {"a": recipe}

    def test_five_deep(self):
        for many, around in ((5, 0), (3, 2), (1, 4)):
            backs = backs_of(*self.chain(many, around))
            self.assertEqual(restated(backs, 0, ["p", "q"]).registers(), ["p", "q"])

    def test_deeper_than_five(self):
        for many, around in ((6, 0), (3, 3), (1, 5), (15, 0)):
            backs = backs_of(*self.chain(many, around))
            with self.assertRaises(LimitExceeded) as caught:
                restated(backs, 0, ["p", "q"])
            self.assertEqual(caught.exception.limit, 5)
            self.assertTrue(serves(backs, 0, ["p", "q"]))
            with self.assertRaises(InvalidArgument):
                restated(backs, 0, ["p"])
        rows, recipes = self.chain(8)
        backs = backs_of(rows, recipes)
        self.assertEqual(restated(backs, 0, ["r3", "q"]).registers(), ["q", "r3"])
        with self.assertRaises(LimitExceeded):
            restated(backs, 0, ["r2", "q"])

    def test_unmade_objects_that_would_be_too_deep(self):
        rows, recipes = self.chain(6)
        backs = backs_of(rows, {}, unmade={0: ("box", {"item": recipes["a"]})})
        with self.assertRaises(LimitExceeded):
            restated(backs, 0, ["p", "q"])
        own = {"c": ("box", {"item": ("in", "r6")})}
        backs = backs_of([*rows, ("new", "c", "box")], {}, own=own, claims=[("zero", ("in", "r6"))])
        self.assertTrue(restated(backs, 0, []) == backs.state_at(0))

    def test_the_side_that_is_deeper_counts(self):
        rows, _ = self.chain(5)
        for recipe in (("add", ("in", "r5"), ("in", "p")), ("add", ("in", "p"), ("in", "r5"))):
            backs = backs_of(rows, {"a": recipe})
            with self.assertRaises(LimitExceeded):
                restated(backs, 0, ["p", "q"])
        for recipe in (("add", ("in", "r4"), ("in", "p")), ("add", ("in", "p"), ("in", "r4"))):
            restated(backs_of(rows, {"a": recipe}), 0, ["p", "q"])


class TestManyRegisters(unittest.TestCase):
    def long(self, word="add"):
        """A chain of 58 rows each of which uses the one ahead of it twice."""
        names = ["p", *[f"r{k}" for k in range(58)]]
        rows = [(word, names[k + 1], names[k], names[k]) for k in range(58)]
        source = function_source([("return", "a")], numbers("a"))
        last = [*rows[40:], ("look", 0), ("number", "zero", 0)]
        code = Code(source, "f", [
            (numbers("p"), rows[:20], ("go", 1, [])), ([], rows[20:40], ("go", 2, [])), ([], last, ("return", "zero")),
        ])
        return Backs(code, [FrameState(code, 0, [("f", 0, {"a": ("in", "r57")})], unmade={}, own={}, claims=[])])

    def test_long_chains(self):
        backs = self.long()
        self.assertEqual([serves(backs, 0, []), serves(backs, 0, ["p"]), serves(backs, 0, ["r30"])], [False, True, True])
        self.assertEqual([least_kept(backs, 0), farthest_kept(backs, 0)], [(1, ["r57"]), (1, ["p"])])
        weights = {name: 1000 - k for k, name in enumerate(backs.code.kinds())}
        self.assertEqual(least_kept(backs, 0, weights={**weights, "r20": 3, "r40": 3}), (3, ["r40"]))
        self.assertEqual(farthest_kept(backs, 0, weights={**weights, "r20": 3, "r40": 3}), (3, ["r20"]))
        path, = kept_paths(backs, 0)
        self.assertEqual(path, ["p", *[f"r{k}" for k in range(58)]])
        self.assertTrue(shows(backs, 0, [path]))
        with self.assertRaises(LimitExceeded):
            restated(backs, 0, ["p"])
        self.assertEqual(restated(backs, 0, ["r52"]).registers(), ["r52"])
        with self.assertRaises(LimitExceeded):
            restated(backs, 0, ["r51"])
        words = made_for(backs)
        self.assertEqual([words["p"], words["r57"], words["zero"]], ["points", "points", "code"])

    def test_many_paths(self):
        params = numbers("p", "q", "r", "s")
        rows = [("add", f"a{k}", one, other) for k, (one, other) in enumerate(itertools.permutations("pqrs", 2))]
        frames = reading(**{name: f"a{k}" for k, name in enumerate("abcdef")})
        backs = backs_of(rows, frames, params)
        self.assertEqual([least_kept(backs, 0), farthest_kept(backs, 0)], [(4, ["p", "q", "r", "s"])] * 2)
        self.assertEqual(len(kept_paths(backs, 0)), 4)
        self.assertTrue(shows(backs, 0, kept_paths(backs, 0)))


class TestMadeFor(unittest.TestCase):
    def test_rows_and_ends(self):
        words = made_for(all_backs())
        needed = sorted(name for name in words if words[name] == "code")
        self.assertEqual(needed, ["a", "b", "c", "g", "h", "i", "j", "k", "o", "x"])
        self.assertEqual([words["s"], words["t"], words["d"], words["n"]], ["points"] * 4)
        self.assertEqual([words[name] for name in "lzeu"], ["nothing"] * 4)
        self.assertEqual(sorted(words), sorted(all_code().kinds()))

    def of(self, rows, end, more=(), recipe=("number", 0), params=numbers("p", "q")):
        source = function_source([("return", "h")], list(zip("hijk", [kind for _, kind in params])))
        code = Code(source, "f", [(list(params), [("look", 0), *rows], end), *more])
        if recipe[0] == "in":
            code = Code(source, "f", [(list(params), [*rows, ("look", 0)], end), *more])
        return made_for(Backs(code, [FrameState(code, 0, [("f", 0, {"h": recipe})], unmade={}, own={}, claims=[])]))

    def test_each_use_by_the_code_itself(self):
        params = [("p", "number"), ("o", "object"), ("z", "number")]
        end = ("return", "z")
        for row, needed in ((("put", "o", "item", "p"), "op"), (("see", "p"), "p"), (("guard", "p", 1), "p"), (("call", "k", "f", ["p", "o", "p"]), "op"),
                            (("get", "k", "o", "item"), ""), (("add", "k", "p", "p"), ""), (("same", "k", "o", "o"), ""), (("new", "k", "cell"), "")):
            source = function_source([("return", "h")], [("h", "number"), ("i", "object"), ("j", "number")])
            code = Code(source, "f", [(params, [row], end)])
            states = [FrameState(code, point, [("f", 0, {"h": ("number", 0)})], unmade={}, own={}, claims=[]) for point in code.points()]
            words = made_for(Backs(code, states))
            self.assertEqual(sorted(name for name in words if words[name] == "code"), sorted({*needed, "z"}), row)
            self.assertEqual({words[name] for name in words if words[name] != "code"} - {"nothing"}, set())

    def test_rows_that_make_what_is_needed(self):
        words = self.of([("add", "s", "p", "q"), ("times", "t", "s", "s")], ("return", "t"))
        self.assertEqual(words, {name: "code" for name in "pqst"})
        words = self.of([("add", "s", "p", "q"), ("times", "t", "s", "s")], ("return", "p"), recipe=("in", "t"))
        self.assertEqual(words, {"p": "code", "q": "points", "s": "points", "t": "points"})

    def test_goals_give_to_what_is_needed(self):
        more = [(numbers("x", "y"), [], ("return", "x"))]
        self.assertEqual(self.of([], ("go", 1, ["p", "q"]), more), {"p": "code", "q": "nothing", "x": "code", "y": "nothing"})
        words = self.of([], ("if", "p", (1, ["q", "p"]), (1, ["q", "q"])), more)
        self.assertEqual(words, {"p": "code", "q": "code", "x": "code", "y": "nothing"})

    def test_points_in_loops(self):
        source = function_source([("return", "h")], numbers("h", "i"))
        code = Code(source, "f", [
            (numbers("p", "q"), [("number", "n", 1)], ("go", 1, ["p", "q"])),
            (numbers("x", "y"), [("look", 0), ("add", "z", "y", "n")], ("if", "x", (1, ["x", "z"]), (2, []))),
            ([], [], ("return", "x")),
        ])
        backs = Backs(code, [FrameState(code, 0, [("f", 0, {"h": ("in", "y")})], unmade={}, own={}, claims=[])])
        self.assertEqual(made_for(backs), {"p": "code", "x": "code", "q": "points", "y": "points", "z": "points", "n": "points"})

    def test_own_objects_and_claims_need_nothing(self):
        own = {"c": ("box", {"item": ("in", "p")})}
        backs = backs_of([("new", "c", "box")], {}, own=own, claims=[("zero", ("in", "q"))])
        words = made_for(backs)
        self.assertEqual([words[name] for name in ("c", "p", "q", "zero")], ["nothing", "nothing", "nothing", "code"])
        backs = backs_of([], {}, unmade={0: ("box", {"item": ("in", "p")})})
        self.assertEqual(made_for(backs)["p"], "points")


def random_backs(chance, shape):
    """Code of one of three shapes with random rows and a point, and a random frame state for it."""
    params = numbers("p0", "p1") + objects("o0")
    kinds = dict(params)
    counter = itertools.count()

    def pick(names, kind):
        return chance.choice([name for name in names if kinds[name] == kind])

    def rows_over(names, many):
        rows = []
        for _ in range(many):
            name = f"r{next(counter)}"
            word = chance.choice([*AGAIN[2:6], *AGAIN, "get", "see", "put", "guardless"])
            if word == "number":
                row, kind = ("number", name, chance.randint(-3, 3)), "number"
            elif word in ("nil", "new"):
                row, kind = ("nil", name), "object"
            elif word == "get":
                row, kind = ("get", name, pick(names, "object"), "item"), "number"
            elif word == "same" and chance.random() < 0.5:
                row, kind = ("same", name, pick(names, "object"), pick(names, "object")), "number"
            elif word in AGAIN:
                row, kind = (word, name, pick(names, "number"), pick(names, "number")), "number"
            elif word == "see":
                row, kind = ("see", chance.choice(names)), None
            else:
                row, kind = ("put", pick(names, "object"), "item", pick(names, "number")), None
            rows.append(row)
            if kind:
                kinds[name] = kind
                names = [*names, name]
        return rows, names

    names = [name for name, _ in params]
    if shape == "line":
        ahead, names = rows_over(names, chance.randint(1, 6))
        standing = names
        behind, names = rows_over(names, chance.randint(0, 3))
        blocks = [(params, [*ahead, ("look", 0), *behind], ("return", pick(names, "number")))]
    else:
        ahead, names = rows_over(names, chance.randint(1, 3))
        kinds["x0"] = kinds["x1"] = "number"
        given = [pick(names, "number"), pick(names, "number")]
        inner = [*names, "x0", "x1"]
        above, inner = rows_over(inner, chance.randint(0, 3))
        standing = inner
        below, all_inner = rows_over(inner, chance.randint(0, 2))
        again = [pick(all_inner, "number"), pick(all_inner, "number")]
        last, all_names = rows_over(all_inner, chance.randint(0, 2))
        if shape == "loop":
            end = ("if", pick(all_inner, "number"), (1, again), (2, []))
            blocks = [(params, ahead, ("go", 1, given)), (numbers("x0", "x1"), [*above, ("look", 0), *below], end),
                      ([], last, ("return", pick(all_names, "number")))]
        else:
            end = ("if", pick(all_inner, "number"), (2, []), (3, []))
            other, _ = rows_over(all_inner, 2)
            blocks = [(params, ahead, ("go", 1, given)), (numbers("x0", "x1"), [*above, ("look", 0), *below], end),
                      ([], last, ("return", pick(all_names, "number"))), ([], other, ("return", pick(all_inner, "number")))]
    wanted = [name for name in standing if kinds[name] == "number" and chance.random() < 0.5][:5]
    recipes = {"a": ("number", 1), **{variable: ("in", name) for variable, name in zip("bcdef", wanted)}}
    for name in standing:
        if kinds[name] == "object" and chance.random() < 0.3:
            recipes["u"] = ("in", name)
    source_rows = [("return", "a")]
    source = function_source(source_rows, [("n0", "number"), ("n1", "number"), ("n2", "object")], numbers(*"abcdef") + objects("u"))
    code = Code(source, "f", blocks)
    return Backs(code, [FrameState(code, 0, [("f", 0, recipes)], unmade={}, own={}, claims=[])])


def made_and_read(row):
    """What a row of random_backs makes and reads."""
    if row[0] in ("see", "guard"):
        return None, [row[1]]
    if row[0] == "put":
        return None, [row[1], row[3]]
    if row[0] == "look":
        return None, []
    if row[0] == "get":
        return row[1], [row[2]]
    return row[1], [] if row[0] in ("number", "nil", "new") else list(row[2:])


def read_first(blocks, k, r, name, seen):
    """Whether some way from row r of block k on reads a register before it is made anew."""
    if (k, r) in seen:
        return False
    seen.add((k, r))
    _, rows, end = blocks[k]
    if r < len(rows):
        made, read = made_and_read(rows[r])
        return name in read or (made != name and read_first(blocks, k, r + 1, name, seen))
    goals = {"return": [], "go": [end[1:]], "if": list(end[2:])}[end[0]]
    asked = [] if end[0] == "go" else [end[1]]
    if name in asked or any(name in given for _, given in goals):
        return True
    return any(name not in dict(blocks[goal][0]) and read_first(blocks, goal, 0, name, seen) for goal, _ in goals)


class TestRandom(unittest.TestCase):
    def told_from(self, rows, name, kept):
        if name in kept:
            return True
        return name in rows and all(self.told_from(rows, used, kept) for used in made_and_read(rows[name])[1])

    def check_live(self, backs):
        code = backs.code
        k, r = code.place(0)
        expected = [name for name in sorted(code.kinds()) if read_first(code.blocks(), k, r + 1, name, set())]
        self.assertEqual(live(code, 0), expected)
        self.assertEqual([name for name in expected if name not in code.usable(0)], [])
        return expected

    def check(self, backs, chance):
        code = backs.code
        living = self.check_live(backs)
        rows = {row[1]: row for block in code.blocks() for row in block[1] if row[0] in AGAIN}
        wishes = [name for name in backs.state_at(0).registers() if name not in living]
        free = [name for name in code.usable(0) if name not in living]
        weights = None if chance.random() < 0.4 else {name: chance.randint(1, 4) for name in code.kinds() if chance.random() < 0.7}
        sets = []
        for many in range(len(free) + 1):
            for names in itertools.combinations(free, many):
                told = all(self.told_from(rows, name, {*names, *living}) for name in wishes)
                if chance.random() < 0.2:
                    self.assertIs(serves(backs, 0, list(names)), told)
                if told:
                    sets.append((sum((weights or {}).get(name, 1) for name in names), list(names)))
        cost = min(sets)[0]
        best = [names for price, names in sets if price == cost]
        from_each = [one for one in best if all(self.all_from(rows, one, other, living) for other in best)]
        to_each = [one for one in best if all(self.all_from(rows, other, one, living) for other in best)]
        self.assertEqual((len(from_each), len(to_each)), (1, 1))
        self.assertEqual(least_kept(backs, 0, weights=weights), (cost, sorted(from_each[0])))
        self.assertEqual(farthest_kept(backs, 0, weights=weights), (cost, sorted(to_each[0])))
        paths = kept_paths(backs, 0)
        self.assertEqual(len(paths), min(len(names) for _, names in sets))
        self.assertTrue(shows(backs, 0, paths))
        return len(best) > 1, [from_each[0], to_each[0]]

    def test_live_registers_of_many_blocks(self):
        chance = random.Random(94)
        source = function_source([("return", "a")], numbers("a"))
        for _ in range(300):
            many = chance.randint(2, 8)
            order = list(range(1, many))
            chance.shuffle(order)
            behind = dict(zip([0, *order], [*order, 0]))
            blocks = []
            for k in range(many):
                names = ["r0", "r1", "r2", "r3"] + ([f"x{k}"] if k else [])
                first = [("number", f"r{n}", n) for n in (1, 2, 3)] if k == 0 else []
                rows = [*first, *[("see", chance.choice(names)) for _ in range(chance.randint(0, 1))], ("look", k)]
                rows += [("see", chance.choice(names)) for _ in range(chance.randint(0, 1))]
                one = (behind[k], [chance.choice(names)])
                other = (chance.randint(1, many - 1), [chance.choice(names)])
                end = ("return", chance.choice(names))
                if behind[k]:
                    end = chance.choice([("go", *one), ("if", chance.choice(names), one, other)])
                blocks.append((numbers("r0" if k == 0 else f"x{k}"), rows, end))
            code = Code(source, "f", blocks)
            for point in code.points():
                k, r = code.place(point)
                expected = [name for name in sorted(code.kinds()) if read_first(blocks, k, r + 1, name, set())]
                self.assertEqual(live(code, point), expected)

    def all_from(self, rows, names, kept, living):
        return all(self.told_from(rows, name, {*kept, *living}) for name in names)

    def test_against_all_sets(self):
        chance = random.Random(91)
        several = 0
        for _ in range(800):
            backs = random_backs(chance, chance.choice(["line", "loop", "fork"]))
            if len([name for name in backs.code.usable(0) if name not in live(backs.code, 0)]) <= 9:
                several += self.check(backs, chance)[0]
        self.assertGreater(several, 30)

    def values_at_the_point(self, backs, values):
        """The values of the registers at the point of code of one block without get."""
        values = dict(values)
        for row in backs.code.blocks()[0][1]:
            if row[0] == "look":
                return values
            if row[0] in ("number", "nil"):
                values[row[1]] = row[2] if row[0] == "number" else None
            elif row[0] in AGAIN:
                one, other = values[row[2]], values[row[3]]
                reckon = {"add": lambda: one + other, "sub": lambda: one - other, "times": lambda: one * other}
                reckon.update({"less": lambda: int(one < other), "same": lambda: int(one == other)})
                values[row[1]] = reckon[row[0]]()
        return values

    def test_restated_frame_states_build_the_same(self):
        chance = random.Random(93)
        done = 0
        while done < 150:
            backs = random_backs(chance, "line")
            if any(row[0] == "get" for row in backs.code.blocks()[0][1]):
                continue
            done += 1
            values = self.values_at_the_point(backs, {"p0": chance.randint(-5, 5), "p1": chance.randint(-5, 5), "o0": None})
            for kept in (least_kept(backs, 0)[1], farthest_kept(backs, 0)[1]):
                try:
                    state = restated(backs, 0, kept)
                except LimitExceeded:
                    continue
                there = {name: values[name] for name in [*kept, *live(backs.code, 0)]}
                self.assertTrue(built(state, there, {}) == built(backs.state_at(0), values, {}))
                self.assertLessEqual(set(state.registers()), set(there))


if __name__ == "__main__":
    unittest.main()
