"""Many questions about one piece of code: the answers stay, and later ones take a small part of the first one's work."""

import itertools
import random
import sys
import unittest

from backframes.carried import again, carried, carried_paths, carries, thinned, to_come
from backframes.code import Code
from backframes.errors import CodeError
from backframes.frames import Backs, FrameState
from backframes.judging import judge, verdict
from backframes.kept import farthest_kept, kept_paths, least_kept, live, made_for, restated, serves, shows
from backframes.papers import least_paper
from backframes.repair import comes, known_range, least_recipe
from backframes.source import Source
from backframes.ways import rows_on, ways
from tests.compiled import compiled_backs
from tests.samples import all_backs
from tests.test_kept import read_first
from tests.wild import wild_backs


def make(n):
    """Code of n blocks, each of which but the outer ones goes on or back, with a point in each of these."""
    source = Source([], [("f", [("a", "number")], [], "number", [("see", "a"), ("return", "a")])])
    blocks = [([("r0", "number")], [("add", "s0", "r0", "r0")], ("go", 1, []))]
    for k in range(1, n - 1):
        rows = [("look", k), ("add", f"t{k}a", "s0", "r0"), ("add", f"t{k}b", f"t{k}a", "r0")]
        rows += [("add", f"t{k}c", f"t{k}b", "r0"), ("add", f"t{k}d", f"t{k}c", "r0")]
        blocks.append(([], rows, ("if", f"t{k}d", (k + 1, []), (max(1, k - 1), []))))
    blocks.append(([], [("see", "t1a")], ("return", "r0")))
    code = Code(source, "f", blocks)
    frames = [("f", 0, {"a": ("in", "s0")})]
    return Backs(code, [FrameState(code, k, frames, unmade={}, own={}, claims=[]) for k in range(1, n - 1)])


QUESTIONS = (
    lambda backs, point: live(backs.code, point),
    lambda backs, point: backs.code.usable(point),
    lambda backs, point: serves(backs, point, []),
    lambda backs, point: serves(backs, point, ["r0"]),
    least_kept,
    lambda backs, point: least_kept(backs, point, weights={"s0": 3, "r0": 2}),
    farthest_kept,
    kept_paths,
    lambda backs, point: shows(backs, point, [["r0", "s0"]]),
    lambda backs, point: restated(backs, point, []).frames(),
    lambda backs, point: restated(backs, point, ["r0"]).frames(),
    lambda backs, point: made_for(backs),
    to_come,
    carried,
    carried_paths,
    lambda backs, point: carries(backs, point, ["r0"]),
    lambda backs, point: [again(backs, point, (turn,)) for turn in (0, 1)],
    lambda backs, point: thinned(backs).state_at(point).frames(),
    lambda backs, point: judge(backs),
    lambda backs, point: [verdict(backs, point, turns) for turns, _ in ways(backs.code, point)],
    lambda backs, point: [rows_on(backs.code, point, turns) for turns, _ in ways(backs.code, point)],
    comes,
    lambda backs, point: least_recipe(backs, point, 0, "a"),
    lambda backs, point: known_range(backs, point, ("number", 3)),
    lambda backs, point: least_paper(backs, 1),
)


def answer(ask, backs, point):
    """What a question returns, or the error that it raises."""
    try:
        return ask(backs, point)
    except CodeError as error:
        return (error.__class__.__name__, vars(error))


def spoil(thing):
    """Change all lists and dicts of what was returned."""
    if isinstance(thing, (list, tuple)):
        for part in list(thing):
            spoil(part)
    if isinstance(thing, list):
        thing.append("spoilt")
        thing[0] = None
    if isinstance(thing, dict):
        for part in thing.values():
            spoil(part)
        thing.clear()


class TestAnswers(unittest.TestCase):
    def test_the_code_that_took_long(self):
        for n in (4, 8, 12):
            backs = make(n)
            last = f"t{n - 2}d"
            for point in backs.code.points():
                self.assertEqual(live(backs.code, point), ["r0", "s0"] + (["t1a"] if point > 1 else []))
                self.assertEqual(least_kept(backs, point), (0, []))
                self.assertEqual(to_come(backs, point), ["r0", "s0"] + (["t1a"] if point > 1 else []))
                self.assertEqual(carried(backs, point), ["r0"])
            self.assertIn(last, backs.code.kinds())

    def expected(self, n):
        """The answers of code that is made anew for each question."""
        return {(k, point): answer(QUESTIONS[k], make(n), point) for k in range(len(QUESTIONS)) for point in range(-1, n)}

    def test_later_questions_in_any_order(self):
        chance = random.Random(89)
        for n in (4, 8, 12):
            expected = self.expected(n)
            for _ in range(2):
                backs = make(n)
                order = [*expected, *expected]
                chance.shuffle(order)
                for k, point in order:
                    told = answer(QUESTIONS[k], backs, point)
                    self.assertEqual(told, expected[k, point])
                    spoil(told)

    def test_one_question_again_and_again(self):
        for k, ask in enumerate(QUESTIONS):
            backs = make(8)
            for point in (6, 1, 3, 1):
                first = answer(ask, make(8), point)
                for _ in range(3):
                    told = answer(ask, backs, point)
                    self.assertEqual(told, first)
                    spoil(told)

    def test_code_of_all_forms(self):
        chance = random.Random(90)
        for seed in range(120):
            same = [wild_backs(random.Random(seed)) for _ in range(2)]
            points = same[0].code.points()
            for _ in range(2):
                for point in chance.sample(points, len(points)):
                    for ask in QUESTIONS:
                        told = [answer(ask, backs, point) for backs in same]
                        self.assertEqual(told[0], told[1])
                        spoil(told[0])
                    if point in points[:2]:
                        same[1] = wild_backs(random.Random(seed))

    def test_what_is_live_at_all_points(self):
        for seed in range(150):
            code = wild_backs(random.Random(seed), words=("number", "add", "see", "nil")).code
            for point in [*code.points(), *code.points()]:
                k, r = code.place(point)
                expected = [name for name in sorted(code.kinds()) if read_first(code.blocks(), k, r + 1, name, set())]
                told = live(code, point)
                self.assertEqual(told, expected)
                spoil(told)


class TestNothingIsSeen(unittest.TestCase):
    def ask_all(self, backs):
        for point in backs.code.points():
            for ask in QUESTIONS:
                spoil(answer(ask, backs, point))

    def test_code_that_was_asked_is_equal_to_code_made_anew(self):
        for remade in (lambda: make(4), lambda: make(12), all_backs):
            backs = remade()
            told = (backs.code.blocks(), backs.code.points(), backs.code.kinds(), [state.frames() for state in backs.states()])
            self.ask_all(backs)
            self.assertTrue(backs.code == remade().code and remade().code == backs.code)
            self.assertTrue(backs == remade() and remade() == backs)
            self.assertEqual((backs.code.blocks(), backs.code.points(), backs.code.kinds(), [state.frames() for state in backs.states()]), told)
            self.assertTrue(all(state == other for state, other in zip(backs.states(), remade().states())))
        self.assertFalse(make(4).code == make(8).code)

    def test_code_that_was_asked_may_be_used_as_before(self):
        backs = make(8)
        self.ask_all(backs)
        fresh = make(8)
        self.assertTrue(Backs(backs.code, fresh.states()) == fresh)
        self.assertTrue(Backs(fresh.code, backs.states()) == backs)

    def test_pieces_of_code_do_not_mix(self):
        backs = [make(n) for n in (4, 8, 12)]
        for one, other in itertools.permutations(backs, 2):
            self.ask_all(one)
            for point in other.code.points():
                self.assertEqual(live(other.code, point), live(make(len(other.code.blocks())).code, point))

    def stripped(self, backs, code):
        """Frame states without own objects and claims, of equal code."""
        states = [FrameState(code, state.point, state.frames(), unmade=state.unmade(), own={}, claims=[]) for state in backs.states()]
        return Backs(code, states)

    def test_ways_of_the_same_code_with_other_frame_states(self):
        unlike = 0
        for seed in range(300):
            fresh = [compiled_backs(random.Random(seed), compiler="owner") for _ in range(2)]
            if not any(state.own() for state in fresh[0].states()):
                continue
            expected = [self.all_verdicts(fresh[0]), self.all_verdicts(self.stripped(fresh[1], fresh[1].code))]
            backs = compiled_backs(random.Random(seed), compiler="owner")
            others = self.stripped(backs, backs.code)
            for _ in range(2):
                self.assertEqual([self.all_verdicts(backs), self.all_verdicts(others)], expected)
                backs, others = Backs(backs.code, backs.states()), Backs(backs.code, others.states())
            unlike += expected[0] != expected[1]
        self.assertGreater(unlike, 3)

    def all_verdicts(self, backs):
        told = [judge(backs)]
        for start in (None, *backs.code.points()):
            told.extend(verdict(backs, start, turns) for turns, _ in ways(backs.code, start))
        for point in backs.code.points():
            told.extend([comes(backs, point), least_recipe(backs, point, 0, "a"), least_recipe(backs, point, 0, "o")])
        return told

    def test_other_frame_states_of_the_same_code(self):
        first = make(4)
        other = Backs(first.code, [FrameState(first.code, k, [("f", 0, {"a": ("in", "r0")})], unmade={}, own={}, claims=[]) for k in (1, 2)])
        self.ask_all(first)
        self.assertEqual([to_come(other, 1), to_come(first, 1)], [["r0", "s0"], ["r0", "s0"]])
        behind = [("see", "a"), ("return", "a")]
        source = Source([], [("f", [("a", "number")], [], "number", behind)])
        code = Code(source, "f", [([("p", "number")], [("add", "s", "p", "p"), ("look", 0)], ("return", "p"))])
        told = []
        for name in ("s", "p", "s"):
            backs = Backs(code, [FrameState(code, 0, [("f", 0, {"a": ("in", name)})], unmade={}, own={}, claims=[])])
            told.append([live(code, 0), to_come(backs, 0), least_kept(backs, 0), carried(backs, 0)])
        self.assertEqual(told, [[["p"], ["p", "s"], (0, []), ["p"]], [["p"], ["p"], (0, []), ["p"]], [["p"], ["p", "s"], (0, []), ["p"]]])


def calls_of(ask):
    """How many functions a question calls, which is the same each time that it is asked of the same objects."""
    count = [0]

    def watch(_, event, __):
        count[0] += event in ("call", "c_call")

    sys.setprofile(watch)
    try:
        ask()
    finally:
        sys.setprofile(None)
    return count[0]


class TestWork(unittest.TestCase):
    def test_later_questions_take_a_small_part(self):
        asks = (
            lambda backs: live(backs.code, 1), lambda backs: serves(backs, 1, []), lambda backs: shows(backs, 1, []), lambda backs: least_kept(backs, 1),
            lambda backs: farthest_kept(backs, 1), lambda backs: kept_paths(backs, 1), lambda backs: restated(backs, 1, []), lambda backs: to_come(backs, 1),
            judge, lambda backs: verdict(backs, 1, (0,)), lambda backs: comes(backs, 1), lambda backs: known_range(backs, 1, ("in", "r0")),
        )
        for ask in asks:
            backs = make(12)
            first = calls_of(lambda: ask(backs))
            later = [calls_of(lambda: ask(backs)) for _ in range(3)]
            self.assertEqual(len(set(later)), 1)
            self.assertLess(later[0] * 4, first)

    def diamonds(self):
        """Code with 128 ways from its point."""
        source = Source([], [("f", [("a", "number")], [], "number", [("see", "a"), ("return", "a")])])
        blocks = [([("r", "number")], [("look", 0)], ("go", 1, ["r"]))]
        for k in range(1, 8):
            blocks.append(([(f"p{k}", "number")], [("add", f"s{k}", f"p{k}", "r")], ("if", f"s{k}", (k + 1, ["r"]), (k + 1, [f"s{k}"]))))
        blocks.append(([("last", "number")], [("see", "r")], ("return", "r")))
        code = Code(source, "f", blocks)
        return Backs(code, [FrameState(code, 0, [("f", 0, {"a": ("in", "r")})], unmade={}, own={}, claims=[])])

    def test_many_ways(self):
        asks = (judge, lambda backs: [verdict(backs, 0, turns) for turns, _ in ways(backs.code, 0)], lambda backs: ways(backs.code, 0), lambda backs: comes(backs, 0))
        for ask in asks:
            backs = self.diamonds()
            first = calls_of(lambda: ask(backs))
            later = [calls_of(lambda: ask(backs)) for _ in range(2)]
            self.assertEqual(later[0], later[1])
            self.assertLess(later[0] * 4, first)
        self.assertEqual(judge(self.diamonds()), ("right",))

    def test_points_that_are_asked_in_turn(self):
        backs = make(12)
        first = calls_of(lambda: [comes(backs, point) for point in range(1, 11)])
        later = calls_of(lambda: [comes(backs, point) for point in range(1, 11)])
        self.assertLess(later * 4, first)

    def test_other_frame_states_are_judged_in_less_time(self):
        """What the code does on its ways is the same for all of its frame states."""
        backs = self.diamonds()
        first = calls_of(lambda: judge(backs))
        later = calls_of(lambda: judge(Backs(backs.code, backs.states())))
        self.assertLess(later * 2, first)

    def test_one_point_answers_for_all(self):
        backs = make(12)
        first = calls_of(lambda: live(backs.code, 1))
        for point in range(2, 11):
            self.assertLess(calls_of(lambda: live(backs.code, point)) * 20, first)

    def test_it_does_not_grow_with_the_code(self):
        for ask in (lambda backs: live(backs.code, 2), lambda backs: serves(backs, 2, [])):
            told = []
            for n in (4, 12):
                backs = make(n)
                ask(backs)
                told.append(calls_of(lambda: ask(backs)))
            self.assertLessEqual(told[1], 2 * told[0])


if __name__ == "__main__":
    unittest.main()
