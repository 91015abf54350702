import copy
import unittest

from backframes.code import Code
from backframes.errors import InvalidArgument, InvalidCode, InvalidNumber, InvalidState, LimitExceeded
from backframes.frames import Backs, FrameState, built
from backframes.machine import State, finished, going_on
from backframes.source import Source
from tests.samples import (
    ALL, BOX, CELL, EMPTY, MAKE, all_backs, all_code, all_source, all_states, function_source, numbers, objects,
    odd_things, paths_in, with_part,
)

MOST = 10 ** 60
WORDS = ("add", "sub", "times", "less", "same")


def deep(depth, word="add", leaf=("in", "a")):
    recipe = leaf
    for _ in range(depth):
        recipe = (word, ("number", 1), recipe)
    return recipe


class FrameCase(unittest.TestCase):
    """Frame states at point 0 of code with registers of both kinds."""

    ROWS = [("call", "m", "f", ["n", "o"]), ("call", "o", "g", ["o"]), ("put", "o", "item", "n"), ("return", "m")]
    G = ("g", objects("x"), objects("y"), "object", [("call", "x", "g", ["y"]), ("return", "x")])

    def setUp(self):
        self.source = function_source(self.ROWS, [("n", "number"), ("o", "object")], numbers("m"), more=[self.G])
        rows = [("number", "n", 5), ("new", "c", "cell"), ("look", 0), ("number", "late", 1), ("look", 1)]
        self.code = Code(self.source, "f", [([("a", "number"), ("b", "object")], rows, ("return", "a"))])

    def state(self, frames=None, unmade=None, own=None, claims=None, point=0):
        frames = [("f", 3, {"m": ("in", "a")})] if frames is None else frames
        unmade, own, claims = {} if unmade is None else unmade, {} if own is None else own, [] if claims is None else claims
        return FrameState(self.code, point, frames, unmade=unmade, own=own, claims=claims)

    def wrong(self, part, frames=None, unmade=None, own=None, claims=None):
        with self.assertRaises(InvalidArgument) as caught:
            self.state(frames, unmade, own, claims)
        self.assertEqual(caught.exception.part, part)

    def number(self, recipe, unmade=None):
        return self.state([("f", 3, {"m": recipe})], unmade)

    def no_number(self, recipe, unmade=None):
        self.wrong("frames", [("f", 3, {"m": recipe})], unmade)

    def no_object(self, recipe, unmade=None):
        self.wrong("frames", [("f", 3, {"m": ("in", "a"), "o": recipe})], unmade)


class TestParts(FrameCase):
    def test_it_tells_what_it_was_made_of(self):
        code = all_code()
        seven, two = all_states(code)
        self.assertIs(seven.code, code)
        self.assertEqual((seven.point, two.point), (7, 2))
        self.assertEqual(two.frames(), [("all", 21, {"m": ("in", "k")})])
        self.assertEqual((two.unmade(), two.own(), two.claims()), ({}, {}, []))
        self.assertEqual([(name, row, sorted(recipes)) for name, row, recipes in seven.frames()],
                         [("all", 15, ["n", "o"]), ("all", 3, ["m", "n", "o", "p"])])
        self.assertEqual(sorted(seven.unmade()), [0, 1])
        self.assertEqual(seven.unmade()[0], ("cell", {"item": ("number", 4), "next": ("unmade", 1)}))
        self.assertEqual(seven.own(), {"c": ("cell", {"item": ("number", 0), "next": ("nil",)})})
        self.assertEqual(seven.claims(), [("other", ("in", "i")), ("zero", ("in", "u"))])

    def test_the_kinds_of_what_it_tells(self):
        seven = all_states(all_code())[0]
        told = [seven.frames(), seven.claims(), seven.registers(), seven.unmade(), seven.own()]
        self.assertEqual([type(part) for part in told], [list, list, list, dict, dict])
        self.assertEqual([type(part) for part in seven.frames()[0]], [str, int, dict])
        self.assertEqual([type(seven.frames()[0]), type(seven.unmade()[1]), type(seven.own()["c"])], [tuple] * 3)

    def test_registers(self):
        seven, two = all_states(all_code())
        self.assertEqual((seven.registers(), two.registers()), (["a", "b", "c", "i", "s", "t", "x"], ["k"]))
        own = {"c": ("cell", {"item": ("in", "n"), "next": ("in", "b")})}
        state = self.state(own=own, claims=[("zero", ("in", "n"))])
        self.assertEqual(state.registers(), ["a"])
        self.assertEqual(self.number(("number", 1)).registers(), [])
        unmade = {3: ("cell", {"item": ("less", ("in", "n"), ("in", "n")), "next": ("in", "b")})}
        self.assertEqual(self.number(("same", ("in", "c"), ("in", "b")), unmade).registers(), ["b", "c", "n"])

    def test_nothing_is_kept(self):
        frames = [("f", 3, {"m": ("in", "a")})]
        unmade, own = {0: ("box", {"item": ("in", "n")})}, {"c": ("box", {"item": ("in", "n")})}
        claims = [("zero", ("in", "n"))]
        parts = copy.deepcopy((frames, unmade, own, claims))
        state = self.state(frames, unmade, own, claims)
        self.assertEqual((frames, unmade, own, claims), parts)
        for _ in range(2):
            frames[0][2]["m"] = ("in", "n")
            unmade[0][1]["item"] = own["c"][1]["item"] = ("in", "a")
            for part in (frames, unmade, own, claims):
                part.clear()
            self.assertEqual((state.frames(), state.unmade(), state.own(), state.claims()), parts)
            self.assertEqual(state.registers(), ["a", "n"])
            state.registers().clear()
            frames, unmade, own, claims = state.frames(), state.unmade(), state.own(), state.claims()

    def test_arguments_by_name(self):
        state = FrameState(claims=[], own={}, unmade={}, frames=[("f", 3, {"m": ("in", "a")})], point=0, code=self.code)
        self.assertTrue(state == self.state())
        with self.assertRaises(TypeError):
            FrameState(self.code, 0, state.frames(), {}, {}, [])


class TestCodeAndPoint(FrameCase):
    def test_no_code(self):
        for thing in odd_things():
            if not isinstance(thing, Code):
                with self.assertRaises(InvalidCode) as caught:
                    FrameState(thing, None, None, unmade=None, own=None, claims=None)
                self.assertEqual((caught.exception.part, caught.exception.at), ("code", None))

    def test_no_point(self):
        for thing in [*odd_things(), 2, -1, "0", [0]]:
            with self.assertRaises(InvalidNumber) as caught:
                FrameState(self.code, thing, None, unmade=None, own=None, claims=None)
            self.assertIs(caught.exception.number, thing)

    def test_registers_that_are_made_on_every_way_to_the_point(self):
        late = [("f", 3, {"m": ("in", "late")})]
        self.wrong("frames", late)
        self.assertEqual(self.state(late, point=1).registers(), ["late"])
        self.no_number(("in", "zz"))


class TestRecipes(FrameCase):
    def test_numbers(self):
        for recipe in (("in", "a"), ("in", "n"), ("number", 0), ("number", 10 ** 9), ("number", -(10 ** 9))):
            self.assertEqual(self.number(recipe).frames()[0][2]["m"], recipe)
            self.no_object(recipe)
        for recipe in (("number", 10 ** 9 + 1), ("number", -(10 ** 9) - 1), ("number", True), ("number", None),
                       ("number", 1.0), ("number",), ("number", 1, 1), ("in", "b"), ("in", None), ("in",), ("in", "a", "a"),
                       ("in", ["a"]), ("nil",), ("unmade", 0), ["number", 1], ["in", "a"], 5, "a", None, (), (1,), ("", 1),
                       ("Number", 1), (b"in", "a"), ("copy", ("in", "a")), (None, 1), ([], 1)):
            self.no_number(recipe)
            self.no_number(recipe, {0: ("empty", {})})

    def test_objects(self):
        unmade = {0: ("empty", {}), 4: ("empty", {})}
        for recipe in (("in", "b"), ("in", "c"), ("nil",), ("unmade", 0), ("unmade", 4)):
            state = self.state([("f", 3, {"m": ("in", "a"), "o": recipe})], unmade)
            self.assertEqual(state.frames()[0][2]["o"], recipe)
            self.no_number(recipe, unmade)
        for recipe in (("nil", None), ("nil", 0), ("in", "a"), ("unmade", 1), ("unmade", -1), ("unmade", True),
                       ("unmade", False), ("unmade", 0.0), ("unmade", "0"), ("unmade", [0]), ("unmade",), ("unmade", 0, 0),
                       ("number", 1), None, ["nil"], ("new", "cell"), ("object", 0)):
            self.no_object(recipe, unmade)

    def test_operations(self):
        for word in WORDS:
            self.number((word, ("in", "a"), ("number", 3)))
            for recipe in ((word, ("in", "a")), (word, ("in", "a"), ("in", "a"), ("in", "a")), (word,),
                           (word, ("in", "a"), ("nil",)), (word, ("in", "b"), ("in", "a")), (word, "a", "a"),
                           (word, ("in", "a"), 3), [word, ("in", "a"), ("in", "a")], (word, ["in", "a"], ["in", "a"])):
                self.no_number(recipe)
            self.no_object((word, ("in", "a"), ("in", "a")))
            pair = (word, ("in", "b"), ("nil",))
            if word == "same":
                self.number(pair)
                self.number((word, ("unmade", 1), ("unmade", 1)), {1: ("empty", {})})
            else:
                self.no_number(pair)
            self.no_object(pair)

    def test_five_operations_within_one_another(self):
        for word in WORDS:
            self.number(deep(5, word))
            self.no_number(deep(6, word))
            self.no_number((word, deep(5), ("in", "a")))
            self.no_number((word, ("in", "a"), deep(5)))
        wide = ("in", "a")
        for _ in range(5):
            wide = ("add", wide, wide)
        self.number(wide)
        self.no_number(("add", wide, wide))
        self.no_number(deep(4, leaf=("same", ("in", "a"), ("same", ("in", "b"), ("nil",)))))
        self.number(deep(3, leaf=("same", ("in", "a"), ("same", ("in", "b"), ("nil",)))))

    def test_depths_of_other_parts(self):
        self.state(unmade={0: ("box", {"item": deep(5)})}, own={"c": ("box", {"item": deep(5)})}, claims=[("zero", deep(5))])
        self.wrong("unmade", unmade={0: ("box", {"item": deep(6)})})
        self.wrong("own", own={"c": ("box", {"item": deep(6)})})
        self.wrong("claims", claims=[("zero", deep(6))])

    def test_unmade_objects_are_those_of_the_dict(self):
        frames = [("f", 3, {"m": ("in", "a"), "o": ("unmade", 2)})]
        self.state(frames, {2: ("empty", {})})
        for unmade in ({}, {1: ("empty", {})}, None, [2], {"2": 2}):
            with self.assertRaises(InvalidArgument) as caught:
                FrameState(self.code, 0, frames, unmade=unmade, own={}, claims=[])
            self.assertEqual(caught.exception.part, "frames")
        self.wrong("unmade", frames, {2: None})
        self.wrong("frames", [("f", 3, {"m": ("in", "a"), "o": ("unmade", 1)})], {True: ("empty", {})})
        self.wrong("unmade", unmade={0: ("cell", {"item": ("number", 1), "next": ("unmade", 1)})})


class TestFrames(FrameCase):
    def chain(self, many):
        """So many frames of f, each but the last at its call of f."""
        waiting = ("f", 0, {"n": ("in", "a"), "o": ("in", "b")})
        return [waiting] * (many - 1) + [("f", 3, {"m": ("in", "a")})]

    def test_how_many(self):
        for many in (1, 2, 5):
            self.assertEqual(self.state(self.chain(many)).frames(), self.chain(many))
        self.wrong("frames", [])
        self.wrong("frames", self.chain(6))

    def test_the_outermost_is_of_the_function_of_the_code(self):
        g = ("g", 1, {"x": ("nil",)})
        self.wrong("frames", [g])
        self.wrong("frames", [("g", 0, {}), g])
        self.state([("f", 1, {"m": ("in", "a"), "n": ("in", "n")}), g])
        self.state([("f", 1, {"m": ("in", "a"), "n": ("in", "n")}), ("g", 0, {}), g])

    def test_they_stand_at_calls(self):
        last = ("f", 3, {"m": ("in", "a")})
        everything = {"n": ("in", "a"), "o": ("in", "b"), "m": ("in", "a")}
        for row in (1, 2, 3):
            self.wrong("frames", [("f", row, everything), last])
        self.wrong("frames", [("f", 0, everything), ("g", 1, {"x": ("nil",)})])

    def test_rows(self):
        everything = {"n": ("in", "a"), "o": ("in", "b"), "m": ("in", "a")}
        for row in (0, 1, 2, 3):
            self.state([("f", row, everything)])
        for row in (-1, 4, True, False, None, 1.0, "0"):
            self.wrong("frames", [("f", row, everything)])

    def test_wanted_variables_must_be_there(self):
        a, b = ("in", "a"), ("in", "b")
        right = [(0, {"n": a, "o": b}), (1, {"m": a, "n": a, "o": b}), (2, {"m": a, "n": a, "o": b}), (3, {"m": a})]
        for row, recipes in right:
            self.assertEqual(self.state([("f", row, recipes)]).frames(), [("f", row, recipes)])
            for name in recipes:
                less = {other: recipes[other] for other in recipes if other != name}
                self.wrong("frames", [("f", row, less)])
        self.state([("f", 3, {"m": a, "n": a, "o": b})])

    def test_what_is_wanted_behind_a_call(self):
        a, b, last = ("in", "a"), ("in", "b"), ("f", 3, {"m": ("in", "a")})
        self.state([("f", 0, {"n": a, "o": b}), last])
        self.state([("f", 0, {"n": a, "o": b, "m": a}), last])
        for recipes in ({"n": a}, {"o": b}, {"n": a, "m": a}, {}):
            self.wrong("frames", [("f", 0, recipes), last])
        inner = ("g", 1, {"x": ("nil",)})
        self.state([("f", 1, {"m": a, "n": a}), inner])
        self.wrong("frames", [("f", 1, {"m": a, "n": a})])
        for recipes in ({"m": a}, {"n": a}, {"m": a, "o": b}):
            self.wrong("frames", [("f", 1, recipes), inner])
        self.state([("f", 1, {"m": a, "n": a}), ("g", 0, {}), inner])
        self.wrong("frames", [("f", 1, {"m": a, "n": a}), ("g", 0, {})])

    def test_variables_and_kinds(self):
        for recipes in ({"m": ("in", "a"), "q": ("in", "a")}, {"m": ("in", "b")}, {"m": ("in", "a"), "o": ("in", "a")},
                        {"m": ("in", "a"), 1: ("in", "a")}, {"m": ("in", "a"), None: ("nil",)}, [("m", ("in", "a"))], None,
                        {"m": ("in", "a"), ("o",): ("nil",)}):
            self.wrong("frames", [("f", 3, recipes)])

    def test_forms(self):
        good = ("f", 3, {"m": ("in", "a")})
        for frame in (list(good), good[:2], (*good, 1), None, (None, *good[1:]), (["f"], *good[1:]), ("h", *good[1:])):
            self.wrong("frames", [frame])
        for frames in ((good,), {0: good}, None, good, "f"):
            with self.assertRaises(InvalidArgument) as caught:
                FrameState(self.code, 0, frames, unmade={}, own={}, claims=[])
            self.assertEqual(caught.exception.part, "frames")


class TestUnmadeOwnClaims(FrameCase):
    def test_unmade(self):
        five = {k: ("cell", {"item": ("number", k), "next": ("unmade", 4 - k)}) for k in (3, 1, 4, 0, 2)}
        self.assertEqual(self.state(unmade=five).unmade(), five)
        self.assertEqual(self.state(unmade={4: ("empty", {})}).unmade(), {4: ("empty", {})})
        empty = ("empty", {})
        for unmade in ({5: empty}, {-1: empty}, {True: empty}, {False: empty}, {1.0: empty}, {"0": empty}, {None: empty},
                       {0: None}, {0: ["empty", {}]}, {0: ("empty",)}, {0: ("empty", {}, 1)}, {0: ("other", {})},
                       {0: (None, {})}, {0: (["empty"], {})}, {0: ("empty", {"item": ("in", "a")})}, {0: ("box", {})},
                       {0: ("box", {"item": ("in", "b")})}, {0: ("box", {"item": 1})}, {0: ("box", {"item": ("unmade", 0)})},
                       {0: ("cell", {"item": ("in", "a")})}, {0: ("cell", {"item": ("in", "a"), "next": ("unmade", 1)})},
                       {0: ("box", {"item": ("in", "a"), 1: 1})}, {0: ("box", ["item"])}, {0: ("empty", [])}, {0: empty, 5: empty}):
            self.wrong("unmade", unmade=unmade)
        for unmade in (None, [], (), "", 0, [("empty", {})]):
            with self.assertRaises(InvalidArgument) as caught:
                FrameState(self.code, 0, [("f", 3, {"m": ("in", "a")})], unmade=unmade, own={}, claims=[])
            self.assertEqual(caught.exception.part, "unmade")

    def test_own(self):
        told = {"c": ("cell", {"item": ("add", ("in", "a"), ("in", "n")), "next": ("in", "c")}), "b": ("empty", {})}
        self.assertEqual(self.state(own=told).own(), told)
        empty = ("empty", {})
        unmade = {0: empty}
        for own in ({"a": empty}, {"late": empty}, {"zz": empty}, {1: empty}, {None: empty}, {("b",): empty}, {"b": None},
                    {"b": ["empty", {}]}, {"b": ("empty",)}, {"b": ("other", {})}, {"b": ("box", {})},
                    {"b": ("box", {"item": ("nil",)})}, {"b": ("cell", {"item": ("in", "a"), "next": ("unmade", 0)})},
                    {"b": ("box", {"item": ("same", ("unmade", 0), ("nil",))})}, {"b": ("empty", {"item": ("in", "a")})},
                    {"b": empty, "q": empty}, {True: empty}):
            self.wrong("own", unmade=unmade, own=own)
        for own in (None, [], (), "b", ["b"]):
            with self.assertRaises(InvalidArgument) as caught:
                FrameState(self.code, 0, [("f", 3, {"m": ("in", "a")})], unmade={}, own=own, claims=[])
            self.assertEqual(caught.exception.part, "own")

    def test_claims(self):
        five = [("zero", ("in", "a")), ("other", ("same", ("in", "b"), ("in", "c")))] + [("zero", ("number", 0))] * 3
        self.assertEqual(self.state(claims=five).claims(), five)
        self.wrong("claims", claims=five + five[:1])
        for claim in (("zero", ("in", "b")), ("zero", ("nil",)), ("one", ("in", "a")), ("zero",), ("zero", ("in", "a"), 1),
                      ["zero", ("in", "a")], (None, ("in", "a")), ("other", None), None, (["zero"], ("in", "a")),
                      ("zero", ("unmade", 0)), ("zero", ("same", ("unmade", 0), ("nil",))), ("zero", ["in", "a"]), ()):
            self.wrong("claims", unmade={0: ("empty", {})}, claims=[five[0], claim])
        for claims in (None, (), {}, "", tuple(five)):
            with self.assertRaises(InvalidArgument) as caught:
                FrameState(self.code, 0, [("f", 3, {"m": ("in", "a")})], unmade={}, own={}, claims=claims)
            self.assertEqual(caught.exception.part, "claims")

    def test_which_is_first(self):
        parts = {"unmade": {0: None}, "own": {"b": None}, "claims": [None]}
        self.wrong("frames", [None], **parts)
        self.wrong("unmade", None, **parts)
        self.wrong("own", None, None, parts["own"], parts["claims"])

    def test_anything_in_the_place_of_any_part(self):
        frames = [("f", 0, {"n": ("add", ("in", "a"), ("number", 1)), "o": ("unmade", 0)}), ("f", 3, {"m": ("in", "a")})]
        told = {
            "frames": frames,
            "unmade": {0: ("cell", {"item": ("in", "a"), "next": ("nil",)})},
            "own": {"c": ("cell", {"item": ("in", "a"), "next": ("nil",)})},
            "claims": [("zero", ("in", "n"))],
        }
        self.state(**told)
        for part in told:
            for path in paths_in(told[part]):
                for thing in odd_things():
                    changed = {**told, part: with_part(told[part], path, thing)}
                    if part == "unmade" and path == ():
                        changed["frames"] = frames[:0] + [("f", 3, {"m": ("in", "a")})]
                    with self.assertRaises(InvalidArgument) as caught:
                        FrameState(self.code, 0, changed["frames"], unmade=changed["unmade"], own=changed["own"],
                                   claims=changed["claims"])
                    self.assertEqual(caught.exception.part, part, (path, thing))


class TestEquality(FrameCase):
    def test_frame_states(self):
        one, other = all_states(all_code()), all_states(all_code())
        self.assertTrue(one[0] == other[0] and one[1] == other[1])
        self.assertFalse(one[0] != other[0] or one[0] == one[1])
        first = self.state(unmade={0: ("empty", {}), 1: ("empty", {})}, own={"b": ("empty", {})}, claims=[("zero", ("in", "a"))])
        self.assertTrue(first == self.state(unmade={1: ("empty", {}), 0: ("empty", {})}, own=first.own(), claims=first.claims()))
        others = [
            self.state([("f", 3, {"m": ("in", "n")})], first.unmade(), first.own(), first.claims()),
            self.state(None, {0: ("empty", {})}, first.own(), first.claims()),
            self.state(None, first.unmade(), {"c": ("empty", {})}, first.claims()),
            self.state(None, first.unmade(), first.own(), [("other", ("in", "a"))]),
            self.state(None, first.unmade(), first.own(), []),
            self.state(None, first.unmade(), first.own(), first.claims(), point=1),
        ]
        self.code = Code(self.source, "f", [(*self.code.blocks()[0][:2], ("return", "n"))])
        others.append(self.state(None, first.unmade(), first.own(), first.claims()))
        for state in others:
            self.assertFalse(first == state)
            self.assertTrue(first != state)
        for thing in (None, 0, [], first.frames(), first.code):
            self.assertFalse(first == thing)
            self.assertFalse(thing == first)

    def test_backs(self):
        code = all_code()
        states = all_states(code)
        backs = Backs(code, states)
        self.assertTrue(backs == Backs(code, states[::-1]))
        self.assertTrue(backs == all_backs())
        self.assertFalse(backs != all_backs())
        changed = FrameState(code, 2, [("all", 21, {"m": ("in", "a")})], unmade={}, own={}, claims=[])
        self.assertFalse(backs == Backs(code, [states[0], changed]))
        other = Code(Source([CELL, BOX, EMPTY, ("more", [])], [ALL, MAKE]), "all", code.blocks())
        self.assertFalse(backs == Backs(other, all_states(other)))
        bare = [Code(code.source, "make", [([], [("new", name, "box")], ("return", name))]) for name in "abb"]
        self.assertFalse(Backs(bare[0], []) == Backs(bare[1], []))
        self.assertTrue(Backs(bare[1], []) == Backs(bare[2], []))
        for thing in (None, 0, [], states, code):
            self.assertFalse(backs == thing)
            self.assertFalse(thing == backs)


class TestBuilt(FrameCase):
    def test_a_built_state(self):
        unmade = {
            4: ("cell", {"item": ("times", ("in", "a"), ("number", -2)), "next": ("unmade", 1)}),
            1: ("cell", {"next": ("in", "b"), "item": ("number", 6)}),
        }
        frames = [("f", 0, {"n": ("sub", ("in", "a"), ("in", "n")), "o": ("unmade", 4)}), ("f", 3, {"m": ("in", "a")})]
        heap = {2: ("empty", {}), 7: ("box", {"item": 1})}
        state = built(self.state(frames, unmade), {"a": 3, "b": ("object", 7), "n": 5}, heap)
        self.assertIsInstance(state, State)
        self.assertEqual(state.frames(), [
            ("f", 0, {"n": -2, "o": ("object", 9), "m": 0}), ("f", 3, {"n": 0, "o": None, "m": 3}),
        ])
        self.assertEqual(state.heap(), {
            **heap, 8: ("cell", {"item": 6, "next": ("object", 7)}), 9: ("cell", {"item": -6, "next": ("object", 8)}),
        })
        self.assertTrue(state == State(self.source, state.frames(), state.heap()))

    def test_numbers_of_unmade_objects(self):
        frames = [("f", 3, {"m": ("in", "a"), "o": ("unmade", 2)})]
        unmade = {2: ("empty", {}), 0: ("cell", {"item": ("number", 1), "next": ("unmade", 0)})}
        state = built(self.state(frames, unmade), {"a": 0}, {})
        self.assertEqual(state.frames()[0][2]["o"], ("object", 1))
        self.assertEqual(state.heap(), {0: ("cell", {"item": 1, "next": ("object", 0)}), 1: ("empty", {})})

    def test_each_operation(self):
        heap = {0: ("empty", {}), 1: ("empty", {})}
        for word, told in (("add", 8), ("sub", -2), ("times", 15), ("less", 1), ("same", 0)):
            state = self.number((word, ("in", "a"), ("in", "n")))
            self.assertEqual(built(state, {"a": 3, "n": 5}, heap).frames()[0][2]["m"], told)
        for one, other, told in ((0, 0, 1), (0, 1, 0), (None, 0, 0), (None, None, 1)):
            values = {"b": None if one is None else ("object", one), "c": None if other is None else ("object", other)}
            state = self.number(("same", ("in", "b"), ("in", "c")))
            self.assertEqual(built(state, values, heap).frames()[0][2]["m"], told)
        unmade = {0: ("empty", {}), 1: ("empty", {})}
        for one, other, told in ((("unmade", 0), ("unmade", 1), 0), (("unmade", 1), ("unmade", 1), 1), (("unmade", 0), ("in", "b"), 0)):
            state = self.number(("same", one, other), unmade)
            values = {"b": ("object", 1)} if other[0] == "in" else {}
            self.assertEqual(built(state, values, heap).frames()[0][2]["m"], told)

    def test_the_interpreter_goes_on_from_it(self):
        rows = [("add", "y", "x", "x"), ("see", "y"), ("return", "y")]
        source = Source([], [("f", numbers("x"), numbers("y"), "number", rows)])
        code = Code(source, "f", [(numbers("a"), [("look", 1)], ("return", "a"))])
        state = FrameState(code, 1, [("f", 1, {"y": deep(5)})], unmade={}, own={}, claims=[])
        self.assertEqual(finished(going_on(built(state, {"a": 4}, {}))), (("done", 9), [("number", 9)]))

    def test_nothing_is_changed_or_kept(self):
        values, heap = {"a": 1, "b": ("object", 0)}, {0: ("cell", {"item": 1, "next": None})}
        frames = [("f", 3, {"m": ("in", "a"), "o": ("in", "b")})]
        frame_state = self.state(frames, {0: ("empty", {})})
        state = built(heap=heap, registers=values, state=frame_state)
        self.assertEqual((values, heap), ({"a": 1, "b": ("object", 0)}, {0: ("cell", {"item": 1, "next": None})}))
        heap[0][1]["item"] = 5
        heap.clear()
        values.clear()
        self.assertEqual(state.frames(), [("f", 3, {"n": 0, "o": ("object", 0), "m": 1})])
        self.assertEqual(state.heap(), {0: ("cell", {"item": 1, "next": None}), 1: ("empty", {})})
        self.assertEqual(frame_state.unmade(), {0: ("empty", {})})

    def wrong_built(self, error, part, state, registers, heap):
        with self.assertRaises(error) as caught:
            built(state, registers, heap)
        self.assertEqual(caught.exception.part, part)

    def test_no_frame_state(self):
        for thing in odd_things():
            if not isinstance(thing, FrameState):
                self.wrong_built(InvalidArgument, "state", thing, None, None)

    def test_registers(self):
        frames = [("f", 3, {"m": ("in", "a"), "o": ("in", "b")})]
        state = self.state(frames, {0: ("box", {"item": ("in", "n")})}, {"c": ("empty", {})}, [("zero", ("in", "a"))])
        good = {"a": 1, "b": None, "n": 10 ** 70}
        built(state, good, {})
        built(state, {**good, "c": 5, "zz": None, 1: 1, None: None, "late": True}, {})
        for name in good:
            self.wrong_built(InvalidArgument, "registers", state, {other: good[other] for other in good if other != name}, None)
        for wrong in ({"a": None}, {"a": True}, {"a": 1.0}, {"a": ("object", 0)}, {"b": 0}, {"b": ("object", -1)},
                      {"b": ("object", True)}, {"b": ["object", 0]}, {"b": ("object",)}, {"n": "1"}, {"n": False}):
            self.wrong_built(InvalidArgument, "registers", state, {**good, **wrong}, None)
        for thing in odd_things():
            self.wrong_built(InvalidArgument, "registers", state, thing, None)
            for name in good:
                if not (thing is None and name == "b" or type(thing) is int):
                    self.wrong_built(InvalidArgument, "registers", state, {**good, name: thing}, None)

    def test_no_registers_are_asked_for(self):
        built(self.number(("number", 1)), {}, {})
        self.wrong_built(InvalidArgument, "registers", self.number(("number", 1)), [], None)
        self.wrong_built(InvalidArgument, "registers", self.number(("number", 1)), None, None)

    def test_heaps(self):
        state = self.number(("in", "a"))
        for thing in odd_things():
            self.wrong_built(InvalidState, "heap", state, {"a": 1}, thing)
        for heap in ({-1: ("empty", {})}, {True: ("empty", {})}, {0: ("empty",)}, {0: ("box", {"item": None})}, {0: ("other", {})}):
            self.wrong_built(InvalidState, "heap", state, {"a": 1}, heap)
        self.wrong_built(InvalidState, "objects", state, {"a": 1}, {0: ("cell", {"item": 0, "next": ("object", 1)})})

    def test_objects_are_those_of_the_heap(self):
        frames = [("f", 3, {"m": ("in", "a"), "o": ("in", "b")})]
        for unmade in ({}, {0: ("empty", {})}):
            self.wrong_built(InvalidState, "objects", self.state(frames, unmade), {"a": 1, "b": ("object", 0)}, {})
            heap = {3: ("empty", {})}
            self.wrong_built(InvalidState, "objects", self.state(frames, unmade), {"a": 1, "b": ("object", 4)}, heap)
            built(self.state(frames, unmade), {"a": 1, "b": ("object", 3)}, heap)
        inner = {1: ("cell", {"item": ("number", 1), "next": ("in", "b")})}
        self.wrong_built(InvalidState, "objects", self.state(unmade=inner), {"a": 1, "b": ("object", 0)}, {})
        self.wrong_built(InvalidState, "heap", self.state(frames), {"a": 1, "b": ("object", 0)}, {1: None})

    def test_great_numbers(self):
        state = self.number(("add", ("in", "a"), ("in", "n")))
        self.assertEqual(built(state, {"a": MOST - 1, "n": 1}, {}).frames()[0][2]["m"], MOST)
        self.assertEqual(built(state, {"a": 1 - MOST, "n": -1}, {}).frames()[0][2]["m"], -MOST)
        self.assertEqual(built(self.number(("in", "a")), {"a": MOST + 1}, {}).frames()[0][2]["m"], MOST + 1)
        self.wrong_built(InvalidState, "heap", state, {"a": MOST, "n": 1}, None)
        inner = ("sub", ("add", ("in", "a"), ("in", "n")), ("in", "n"))
        boxed = self.state([("f", 3, {"m": ("number", 0)})], {0: ("box", {"item": ("times", ("in", "a"), ("in", "n"))})})
        cases = [(state, MOST, 1), (state, -MOST, -1), (self.number(inner), MOST, 1), (boxed, 10 ** 30, 10 ** 30 + 1)]
        cases.append((self.number(("sub", ("in", "a"), ("in", "n"))), -MOST, 1))
        for great, a, n in cases:
            with self.assertRaises(LimitExceeded) as caught:
                built(great, {"a": a, "n": n}, {})
            self.assertEqual(caught.exception.limit, MOST)

    def test_own_objects_and_claims_do_not_matter(self):
        claims = [("zero", ("times", ("in", "n"), ("in", "n")))]
        state = self.state(own={"c": ("box", {"item": ("times", ("in", "n"), ("in", "n"))})}, claims=claims)
        self.assertEqual(built(state, {"a": 1, "n": 10 ** 40}, {}).frames(), [("f", 3, {"n": 0, "o": None, "m": 1})])


class TestBacks(FrameCase):
    def test_states_in_any_order(self):
        code = all_code()
        seven, two = all_states(code)
        for states in ([seven, two], [two, seven]):
            backs = Backs(code, states)
            self.assertIs(backs.code, code)
            self.assertEqual([state.point for state in backs.states()], [2, 7])
            self.assertTrue(backs.state_at(7) == seven and backs.state_at(point=2) == two)
            states.clear()
            backs.states().clear()
            self.assertEqual(len(backs.states()), 2)
        self.assertIs(type(Backs(states=[two, seven], code=code).states()), list)

    def test_states_of_equal_code(self):
        backs = Backs(all_code(), all_states(all_code()))
        self.assertTrue(backs == all_backs())

    def test_code_without_points(self):
        code = Code(self.source, "f", [([("a", "number"), ("b", "object")], [], ("return", "a"))])
        self.assertEqual(Backs(code, []).states(), [])
        with self.assertRaises(InvalidArgument):
            Backs(code, [self.state()])

    def test_no_code(self):
        for thing in odd_things():
            if not isinstance(thing, Code):
                with self.assertRaises(InvalidCode) as caught:
                    Backs(thing, None)
                self.assertEqual((caught.exception.part, caught.exception.at), ("code", None))

    def test_wrong_states(self):
        code = all_code()
        seven, two = all_states(code)
        wrong = [[], [seven], [two], [seven, two, two], [seven, seven], (seven, two), {7: seven, 2: two}, None, [seven, None],
                 [seven, two, None], [seven, code], seven, [self.state(), two], [seven, two, self.state()], [[seven, two]]]
        for states in [*wrong, *odd_things()]:
            with self.assertRaises(InvalidArgument) as caught:
                Backs(code, states)
            self.assertEqual(caught.exception.part, "states")

    def test_states_of_other_code(self):
        look = [("look", 0)]
        first = [([("a", "number"), ("b", "object")], look, ("return", "a"))]
        second = [([("a", "number"), ("c", "object")], look, ("return", "a"))]
        code, other = Code(self.source, "f", first), Code(self.source, "f", second)
        frames = [("f", 3, {"m": ("in", "a")})]
        Backs(code, [FrameState(code, 0, frames, unmade={}, own={}, claims=[])])
        with self.assertRaises(InvalidArgument):
            Backs(code, [FrameState(other, 0, frames, unmade={}, own={}, claims=[])])

    def test_no_such_point(self):
        backs = all_backs()
        for point in [0, 1, 3, -1, "2", [2], *odd_things()]:
            with self.assertRaises(InvalidNumber) as caught:
                backs.state_at(point)
            self.assertIs(caught.exception.number, point)


class TestAllForms(unittest.TestCase):
    def test_going_back_with_all_forms_of_recipes(self):
        backs = all_backs()
        values = {"a": 2, "b": None, "c": ("object", 0), "i": 6, "s": -5, "t": 14, "x": ("object", 0)}
        heap = {0: ("cell", {"item": 0, "next": None})}
        state = built(backs.state_at(7), values, heap)
        self.assertEqual(state.frames(), [
            ("all", 15, {"n": 2, "o": None, "m": 0, "p": None}),
            ("all", 3, {"n": 6, "o": ("object", 2), "m": -15, "p": ("object", 0)}),
        ])
        self.assertEqual(state.heap(), {
            **heap, 1: ("cell", {"item": 4, "next": ("object", 2)}), 2: ("cell", {"item": 13, "next": ("object", 1)}),
        })

    def test_an_object_of_a_run(self):
        rows = [("call", "o", "make", []), ("return", "o")]
        source = function_source(rows, (), objects("o"), "object", [MAKE])
        code = Code(source, "f", [([], [("look", 0), ("nil", "z")], ("return", "z"))])
        inner = ("make", 1, {"c": ("unmade", 0)})
        unmade = {0: ("cell", {"item": ("number", 3), "next": ("nil",)})}
        state = FrameState(code, 0, [("f", 0, {}), inner], unmade=unmade, own={}, claims=[])
        machine = going_on(built(state, {}, {}))
        self.assertEqual(finished(machine), (("done", ("object", 0)), []))
        self.assertEqual(machine.heap(), {0: ("cell", {"item": 3, "next": None})})
        self.assertTrue(all_source() == all_backs().code.source)


if __name__ == "__main__":
    unittest.main()
