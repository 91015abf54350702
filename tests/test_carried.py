import itertools
import random
import unittest

from backframes.carried import again, carried, carried_paths, carries, thinned, to_come, total
from backframes.code import Code
from backframes.errors import InvalidArgument, InvalidCode, InvalidNumber, LimitExceeded
from backframes.frames import Backs, FrameState
from backframes.kept import live, restated
from backframes.source import Source
from backframes.ways import rows_on, ways
from tests.samples import all_backs, function_source, numbers, objects, odd_things
from tests.wild import AGAIN, wild_backs

GREATEST = 10 ** 9


def example():
    f = ("f", [("a", "number"), ("b", "number")], [], "number", [("see", "a"), ("return", "a")])
    rows = [("add", "t", "p", "q"), ("look", 0), ("see", "t"), ("look", 1), ("times", "u", "t", "t")]
    code = Code(Source([], [f]), "f", [([("p", "number"), ("q", "number")], rows, ("return", "u"))])
    ats = [FrameState(code, k, [("f", k, {"a": ("in", "t")})], unmade={}, own={}, claims=[]) for k in (0, 1)]
    return Backs(code, ats)


def backs_with(blocks, recipes, params=numbers("p", "q"), unmade=None, own=None, claims=None):
    """Code of a function that returns its first parameter; recipes tell what its frame states have."""
    function_rows = [("return", "a")]
    source = function_source(function_rows, list(zip("hijk", [kind for _, kind in params])), numbers("a", "b") + objects("o"))
    code = Code(source, "f", [(list(params), *blocks[0]), *blocks[1:]])
    states = []
    for point in code.points():
        frame = ("f", 0, {"a": ("number", 0), **recipes.get(point, {})})
        parts = {"unmade": (unmade or {}).get(point, {}), "own": (own or {}).get(point, {}), "claims": (claims or {}).get(point, [])}
        states.append(FrameState(code, point, [frame], **parts))
    return Backs(code, states)


def line(rows, recipes, end="p", **more):
    return backs_with([(rows, ("return", end))], recipes, **more)


class TestExample(unittest.TestCase):
    def test_the_example_of_the_document(self):
        backs = example()
        told = [to_come(backs, 0), carried(backs, 0), carries(backs, 0, ["p"]), again(backs, 0, ()), total(backs, {0: 3, 1: 2})]
        self.assertEqual(told, [["t"], ["t"], False, [], 5])
        self.assertTrue(thinned(backs) == backs)

    def test_arguments_by_name(self):
        backs = example()
        self.assertEqual(to_come(point=0, backs=backs), ["t"])
        self.assertEqual(carried(point=0, backs=backs), ["t"])
        self.assertEqual(carried_paths(point=0, backs=backs)[0][-1], "t")
        self.assertIs(carries(registers=["t"], point=0, backs=backs), True)
        self.assertEqual(again(turns=(), start=0, backs=backs), [])
        self.assertEqual(total(visits={0: 3, 1: 2}, backs=backs), 5)
        self.assertTrue(thinned(backs=backs) == backs)


class TestToCome(unittest.TestCase):
    def test_rows_ends_and_frame_states(self):
        backs = all_backs()
        self.assertEqual(to_come(backs, 2), ["k"])
        self.assertEqual(to_come(backs, 7), ["a", "b", "c", "i", "s", "t", "x"])

    def test_what_is_read_at_the_point(self):
        backs = line([("number", "n", 1), ("guard", "n", 0)], {0: {"b": ("in", "q")}})
        self.assertEqual(to_come(backs, 0), ["p", "q"])
        backs = line([("look", 0)], {}, unmade={0: {1: ("box", {"item": ("in", "q")})}})
        self.assertEqual(to_come(backs, 0), ["p", "q"])

    def test_own_objects_and_claims_are_not_read(self):
        own = {0: {"c": ("box", {"item": ("in", "q")})}}
        backs = line([("new", "c", "box"), ("look", 0)], {}, own=own, claims={0: [("other", ("in", "q"))]})
        self.assertEqual(to_come(backs, 0), ["p"])
        backs = line([("new", "c", "box"), ("look", 0)], {0: {"o": ("in", "c")}}, own=own)
        self.assertEqual(to_come(backs, 0), ["c", "p"])

    def test_points_that_are_passed(self):
        rows = [("number", "n", 1), ("look", 0), ("number", "m", 2), ("guard", "n", 1), ("look", 2)]
        backs = line(rows, {1: {"b": ("in", "m")}, 2: {"a": ("in", "q")}})
        self.assertEqual([to_come(backs, point) for point in (0, 1, 2)], [["n", "p", "q"], ["m", "p", "q"], ["p", "q"]])

    def test_what_is_made_anew(self):
        blocks = [
            ([("look", 0), ("number", "n", 3)], ("go", 1, ["p"])),
            (numbers("x"), [("look", 1), ("add", "y", "x", "n"), ("look", 2)], ("if", "x", (1, ["y"]), (2, []))),
            ([], [], ("return", "q")),
        ]
        recipes = {1: {"a": ("in", "x")}, 2: {"a": ("in", "x"), "b": ("in", "y")}}
        backs = backs_with(blocks, recipes)
        self.assertEqual([to_come(backs, point) for point in (0, 1, 2)], [["p", "q"], ["n", "q", "x"], ["n", "q", "x", "y"]])
        backs = backs_with(blocks, {1: {"a": ("in", "x")}, 2: {"a": ("number", 0)}})
        self.assertEqual(to_come(backs, 2), ["n", "q", "x", "y"])
        blocks[1] = (numbers("x"), [("look", 1), ("add", "y", "x", "n"), ("look", 2)], ("if", "n", (1, ["y"]), (2, [])))
        backs = backs_with(blocks, {1: {"a": ("in", "x")}})
        self.assertEqual(to_come(backs, 2), ["n", "q", "y"])

    def test_whichever_goals_ifs_take(self):
        blocks = [
            ([("number", "n", 1), ("number", "m", 2), ("number", "k", 3), ("look", 0)], ("if", "p", (1, []), (2, []))),
            ([], [("look", 1)], ("return", "p")), ([], [("see", "m")], ("return", "p")),
        ]
        backs = backs_with(blocks, {1: {"a": ("in", "n")}})
        self.assertEqual(to_come(backs, 0), ["m", "n", "p"])

    def test_what_is_returned_is_new(self):
        backs = example()
        for ask in (to_come, carried, carried_paths):
            told = ask(backs, 0)
            ask(backs, 0).clear()
            self.assertEqual(ask(backs, 0), told)
        carried_paths(backs, 0)[0].clear()
        self.assertEqual(carried_paths(backs, 0)[0][-1], "t")


class TestCarries(unittest.TestCase):
    ROWS = [("add", "t", "p", "q"), ("times", "u", "t", "t"), ("look", 0)]

    def test_what_carries(self):
        backs = line(self.ROWS, {0: {"a": ("in", "u")}}, end="t")
        for names, told in ((["t"], True), (["u"], False), (["p", "q"], True), (["p"], False), ([], False), (["q", "q", "p"], True), (["u", "t"], True)):
            self.assertIs(carries(backs, 0, names), told, names)
        self.assertEqual(carried(backs, 0), ["t"])

    def test_live_registers_are_like_all_others(self):
        backs = line(self.ROWS, {0: {"a": ("in", "u")}}, end="p")
        self.assertEqual([live(backs.code, 0), carried(backs, 0)], [["p"], ["p", "u"]])
        self.assertEqual([carries(backs, 0, ["u"]), carries(backs, 0, ["p", "t"]), carries(backs, 0, ["p", "q"])], [False, True, True])

    def test_numbers_and_nil_need_not_be_carried(self):
        backs = line([("number", "n", 1), ("nil", "z"), ("add", "m", "n", "n"), ("look", 0)], {0: {"a": ("in", "m"), "o": ("in", "z")}}, end="n")
        self.assertEqual([to_come(backs, 0), carried(backs, 0), carried_paths(backs, 0)], [["m", "n", "z"], [], []])
        self.assertIs(carries(backs, 0, []), True)

    def test_leaves(self):
        rows = [("new", "c", "cell"), ("get", "g", "c", "item"), ("get", "h", "c", "next"), ("call", "k", "f", ["p", "q"]), ("look", 0)]
        backs = line(rows, {0: {"a": ("in", "g"), "b": ("in", "k"), "o": ("in", "h")}}, end="q")
        self.assertEqual([carried(backs, 0), carries(backs, 0, ["c", "p", "q"])], [["g", "h", "k", "q"], False])
        self.assertEqual(sorted(carried_paths(backs, 0)), [["g"], ["h"], ["k"], ["q"]])

    def test_the_nearest_of_several(self):
        rows = [("add", "t", "p", "p"), ("add", "u", "t", "t"), ("look", 0)]
        for recipes, end, told in (({"a": ("in", "u")}, "u", ["u"]), ({"a": ("in", "u")}, "t", ["t"]), ({"a": ("in", "u")}, "p", ["p"]),
                                   ({"a": ("in", "t")}, "u", ["t"]), ({"a": ("in", "p")}, "u", ["p"])):
            self.assertEqual(carried(line(rows, {0: recipes}, end=end), 0), told)

    def test_paths(self):
        backs = line(self.ROWS, {0: {"a": ("in", "u")}}, end="p")
        check_paths(self, backs, 0)
        self.assertEqual(sorted(carried_paths(backs, 0)), [["p"], ["q", "t", "u"]])

    def test_wrong_registers(self):
        backs = line([*self.ROWS, ("number", "zero", 0)], {0: {"a": ("in", "u")}})
        for names in (["zero"], ["t", "zz"], ["t", None], ("t",), {"t": 1}, "t", None, [True], ["T"], [["t"]], *odd_things(),
                      *[["t", thing] for thing in odd_things()]):
            with self.assertRaises(InvalidArgument) as caught:
                carries(backs, 0, names)
            self.assertEqual(caught.exception.part, "registers")


class TestAgain(unittest.TestCase):
    def test_what_rows_use(self):
        rows = [("add", "t", "p", "q"), ("number", "n", 1), ("sub", "u", "t", "n"), ("look", 0), ("see", "u"), ("see", "n")]
        backs = line(rows, {}, end="q")
        self.assertEqual([carried(backs, 0), again(backs, 0, ()), again(backs, None, ())], [["q", "u"], ["n"], []])
        backs = line([*rows[:4], ("see", "u"), ("see", "t")], {}, end="q")
        self.assertEqual([carried(backs, 0), again(backs, 0, ())], [["q", "t"], ["n", "u"]])

    def test_what_rows_make_is_not_computed_again(self):
        rows = [("look", 0), ("number", "n", 1), ("add", "t", "p", "n"), ("see", "t"), ("look", 1), ("see", "t")]
        backs = line(rows, {1: {"a": ("in", "n")}}, end="q")
        self.assertEqual([carried(backs, 1), again(backs, 0, ()), again(backs, 1, ())], [["q", "t"], [], []])
        self.assertEqual(again(backs, None, ()), [])

    def test_what_the_next_point_carries(self):
        rows = [("add", "t", "p", "p"), ("look", 0), ("see", "p"), ("look", 1), ("see", "t")]
        backs = line(rows, {}, end="q")
        self.assertEqual([carried(backs, 0), carried(backs, 1)], [["p", "q"], ["q", "t"]])
        self.assertEqual([again(backs, 0, ()), again(backs, 1, ())], [["t"], []])

    def test_frame_states_of_the_end(self):
        rows = [("number", "n", 4), ("add", "t", "p", "n"), ("look", 0), ("see", "p"), ("look", 1)]
        backs = line(rows, {1: {"a": ("in", "t"), "b": ("in", "n")}}, end="q")
        self.assertEqual([carried(backs, 0), carried(backs, 1), again(backs, 0, ())], [["p", "q"], ["q", "t"], ["n", "t"]])

    def test_guards_and_ends(self):
        blocks = [
            ([("add", "t", "p", "p"), ("add", "u", "q", "q"), ("look", 0)], ("if", "t", (1, ["u"]), (2, []))),
            (numbers("x"), [("guard", "u", 1)], ("return", "p")),
            ([], [("see", "p")], ("return", "q")),
        ]
        backs = backs_with(blocks, {})
        self.assertEqual([carried(backs, 0), again(backs, 0, (0,))], [["p", "q"], ["t", "u"]])
        self.assertEqual([again(backs, 1, ()), again(backs, None, ())], [[], []])

    def test_an_end_uses_all_its_registers(self):
        blocks = [
            ([("add", "t", "p", "p"), ("add", "u", "q", "q"), ("look", 0)], ("if", "t", (1, ["u"]), (2, ["p"]))),
            (numbers("x"), [], ("return", "q")), (numbers("y"), [], ("return", "q")),
        ]
        backs = backs_with(blocks, {})
        self.assertEqual([again(backs, 0, (0,)), again(backs, 0, (1,))], [["t", "u"], ["t", "u"]])

    def test_what_is_used_ahead_of_its_making(self):
        blocks = [
            ([("number", "n", 1)], ("go", 1, ["p"])),
            (numbers("x"), [("add", "y", "x", "n"), ("look", 0), ("see", "y")], ("if", "x", (1, ["q"]), (2, []))),
            ([], [], ("return", "q")),
        ]
        backs = backs_with(blocks, {})
        self.assertEqual([carried(backs, 0), again(backs, 0, (0,)), again(backs, 0, (1,))], [["q", "x"], ["n", "y"], ["n", "y"]])

    def test_what_it_raises(self):
        backs = example()
        for start in (2, -1, True, "0", [0]):
            with self.assertRaises(InvalidNumber) as caught:
                again(backs, start, None)
            self.assertIs(caught.exception.number, start)
        for turns in ((0,), [], None, 0, (False,)):
            with self.assertRaises(InvalidArgument) as caught:
                again(backs, 0, turns)
            self.assertEqual(caught.exception.part, "turns")
        for thing in odd_things():
            if thing is not None:
                with self.assertRaises(InvalidNumber):
                    again(backs, thing, None)
            if thing != ():
                with self.assertRaises(InvalidArgument):
                    again(backs, None, thing)
        forks = [([], ("if", "p", (1, []), (1, [])))] + [([], [], ("if", "p", (k, []), (k, []))) for k in range(2, 9)]
        with self.assertRaises(LimitExceeded) as caught:
            again(backs_with([*forks, ([], [("look", 0)], ("return", "p"))], {}), None, ())
        self.assertEqual(caught.exception.limit, 200)
        long = [([("see", "p")] * 20, ("go", 1, [])), ([], [("see", "p")] * 20, ("go", 2, [])), ([], [("see", "p")] * 19, ("return", "p"))]
        with self.assertRaises(LimitExceeded) as caught:
            again(backs_with(long, {}), None, None)
        self.assertEqual(caught.exception.limit, 60)


class TestThinned(unittest.TestCase):
    def test_live_registers_that_are_not_carried(self):
        rows = [("add", "t", "p", "q"), ("times", "u", "t", "t"), ("look", 0), ("see", "u"), ("see", "t"), ("look", 1)]
        unmade = {1: {0: ("box", {"item": ("sub", ("in", "u"), ("in", "q"))})}}
        backs = line(rows, {0: {"a": ("in", "u"), "b": ("in", "t")}}, end="t", unmade=unmade)
        self.assertEqual([carried(backs, 0), carried(backs, 1)], [["q", "t"], ["q", "t"]])
        u = ("times", ("in", "t"), ("in", "t"))
        told = thinned(backs)
        self.assertEqual(told.state_at(0).frames(), [("f", 0, {"a": u, "b": ("in", "t")})])
        self.assertEqual(told.state_at(1).unmade(), {0: ("box", {"item": ("sub", u, ("in", "q"))})})
        self.assertTrue(told.code == backs.code)
        self.assertEqual(backs.state_at(0).frames(), [("f", 0, {"a": ("in", "u"), "b": ("in", "t")})])
        self.assertEqual(restated(backs, 0, []).frames(), backs.state_at(0).frames())

    def test_numbers_are_written_out(self):
        backs = line([("number", "n", 7), ("nil", "z"), ("look", 0), ("see", "n")], {0: {"a": ("in", "n"), "o": ("in", "z")}})
        self.assertEqual(thinned(backs).state_at(0).frames(), [("f", 0, {"a": ("number", 7), "o": ("nil",)})])

    def test_own_objects_and_claims_stay(self):
        rows = [("number", "n", 7), ("new", "c", "box"), ("look", 0)]
        own = {0: {"c": ("box", {"item": ("in", "n")})}}
        backs = line(rows, {0: {"a": ("in", "n")}}, own=own, claims={0: [("zero", ("in", "n"))]})
        state = thinned(backs).state_at(0)
        self.assertEqual([state.own(), state.claims(), state.frames()], [own[0], [("zero", ("in", "n"))], [("f", 0, {"a": ("number", 7)})]])

    def chain(self, deep, around):
        rows = [("add", "r1", "p", "p"), *[("add", f"r{k}", f"r{k - 1}", f"r{k - 1}") for k in range(2, deep + 1)], ("look", 0)]
        recipe = ("in", f"r{deep}")
        for _ in range(around):
            recipe = ("sub", recipe, ("number", 1))
        return line(rows, {0: {"a": recipe}})

    def test_five_and_six_deep(self):
        for deep, around in ((5, 0), (4, 1), (1, 4), (2, 3)):
            self.assertEqual(thinned(self.chain(deep, around)).state_at(0).registers(), ["p"])
        for deep, around in ((6, 0), (5, 1), (1, 5), (12, 0)):
            with self.assertRaises(LimitExceeded) as caught:
                thinned(self.chain(deep, around))
            self.assertEqual(caught.exception.limit, 5)

    def test_code_without_points(self):
        backs = line([], {})
        self.assertTrue(thinned(backs) == backs)
        self.assertEqual(total(backs, {}), 0)


class TestTotal(unittest.TestCase):
    def test_sums(self):
        rows = [("look", 4), ("see", "q"), ("look", 2)]
        backs = line(rows, {})
        self.assertEqual([len(carried(backs, 4)), len(carried(backs, 2))], [2, 1])
        for four, two in ((0, 0), (1, 0), (0, 1), (3, 5), (GREATEST, GREATEST)):
            self.assertEqual(total(backs, {4: four, 2: two}), 2 * four + two)
            self.assertEqual(total(backs, {2: two, 4: four}), 2 * four + two)

    def test_wrong_visits(self):
        backs = example()
        wrong = [{}, {0: 1}, {1: 1}, {0: 1, 1: 1, 2: 1}, {0: 1, 2: 1}, {0: 1, True: 1}, {False: 1, 1: 1}, {0: 1, 1: -1}, {0: 1, 1: GREATEST + 1},
                 {0: 1, 1: True}, {0: 1, 1: 1.0}, {0: 1, 1.0: 1}, {0: 1, "1": 1}, {0: 1, 1: None}, [1, 1], [(0, 1), (1, 1)], None, 1, "01",
                 {0: 1, None: 1}, {0: 1, (1,): 1}]
        for visits in [*wrong, *odd_things(), *[{0: 1, 1: thing} for thing in odd_things()]]:
            with self.assertRaises(InvalidArgument) as caught:
                total(backs, visits)
            self.assertEqual(caught.exception.part, "visits")


class TestWrong(unittest.TestCase):
    ASKS = (to_come, lambda backs, point: carries(backs, point, None), carried, carried_paths)

    def test_no_backs(self):
        others = (lambda backs, point: again(backs, -1, None), lambda backs, point: thinned(backs), lambda backs, point: total(backs, None))
        for thing in odd_things():
            if isinstance(thing, Backs):
                continue
            for ask in (*self.ASKS, *others):
                with self.assertRaises(InvalidCode) as caught:
                    ask(thing, -1)
                self.assertEqual((caught.exception.part, caught.exception.at), ("backs", None))

    def test_no_point(self):
        for thing in [*odd_things(), 2, -1, "0", [0]]:
            for ask in self.ASKS:
                with self.assertRaises(InvalidNumber) as caught:
                    ask(example(), thing)
                self.assertIs(caught.exception.number, thing)


def made_and_read(backs, row):
    """What a row makes, and what it and the frame state of its point read."""
    word = row[0]
    if word in ("see", "guard", "look"):
        read = [] if word == "look" else [row[1]]
        return None, read if word == "see" else [*read, *backs.state_at(row[-1]).registers()]
    if word == "put":
        return None, [row[1], row[3]]
    if word == "call":
        return row[1], list(row[3])
    if word == "get":
        return row[1], [row[2]]
    return row[1], [] if word in ("number", "nil", "new") else list(row[2:])


def read_first(backs, k, r, name, seen):
    """Whether some way from row r of block k on reads a register before it is made anew."""
    if (k, r) in seen:
        return False
    seen.add((k, r))
    blocks = backs.code.blocks()
    _, rows, end = blocks[k]
    if r < len(rows):
        made, read = made_and_read(backs, rows[r])
        return name in read or (made != name and read_first(backs, k, r + 1, name, seen))
    goals = {"return": [], "go": [end[1:]], "if": list(end[2:])}[end[0]]
    if name in ([] if end[0] == "go" else [end[1]]) or any(name in given for _, given in goals):
        return True
    return any(name not in dict(blocks[goal][0]) and read_first(backs, goal, 0, name, seen) for goal, _ in goals)


def again_rows(backs):
    return {row[1]: row for _, rows, _ in backs.code.blocks() for row in rows if row[0] in AGAIN}


def told_from(backs, name, kept):
    rows = again_rows(backs)
    return name in kept or (name in rows and all(told_from(backs, used, kept) for used in made_and_read(backs, rows[name])[1]))


def all_from(backs, names, kept):
    return all(told_from(backs, name, kept) for name in names)


def check_paths(case, backs, point):
    paths = carried_paths(backs, point)
    rows = again_rows(backs)
    case.assertEqual(len(paths), len(carried(backs, point)))
    names = [name for path in paths for name in path]
    case.assertEqual(len(names), len(set(names)))
    for path in paths:
        case.assertNotIn(path[0], rows)
        case.assertIn(path[-1], to_come(backs, point))
        case.assertLessEqual(set(path), set(backs.code.usable(point)))
        for one, other in zip(path, path[1:]):
            case.assertIn(one, made_and_read(backs, rows[other])[1])


class TestRandom(unittest.TestCase):
    WORDS = (*AGAIN, *AGAIN, "get", "see")

    def each_backs(self, seed, many, **more):
        chance = random.Random(seed)
        for _ in range(many):
            yield wild_backs(chance, self.WORDS, **more)

    def test_what_is_to_come(self):
        for backs in self.each_backs(97, 250):
            for point in backs.code.points():
                k, r = backs.code.place(point)
                here = backs.state_at(point).registers()
                names = [name for name in sorted(backs.code.kinds()) if name in here or read_first(backs, k, r + 1, name, set())]
                self.assertEqual(to_come(backs, point), names)
                self.assertLessEqual(set(names), set(backs.code.usable(point)))

    def test_against_all_sets(self):
        several = 0
        for backs in self.each_backs(98, 300, most_blocks=3, most_rows=4):
            for point in backs.code.points():
                standing = backs.code.usable(point)
                coming = to_come(backs, point)
                sets = []
                for many in range(len(standing) + 1):
                    for names in itertools.combinations(standing, many):
                        told = all_from(backs, coming, names)
                        if many < 3:
                            self.assertIs(carries(backs, point, list(names)), told)
                        if told:
                            sets.append(names)
                    if sets:
                        break
                nearest = [one for one in sets if all(all_from(backs, one, other) for other in sets)]
                self.assertEqual([list(names) for names in nearest], [carried(backs, point)])
                several += len(sets) > 1
                check_paths(self, backs, point)
        self.assertGreater(several, 20)

    def test_the_main_fact_and_again(self):
        found = 0
        for backs in self.each_backs(100, 250):
            params = [name for name, _ in backs.code.blocks()[0][0]]
            for start in [None, *backs.code.points()]:
                there = params if start is None else carried(backs, start)
                for turns, point in ways(backs.code, start):
                    names = self.needed_on(backs, start, turns, point)
                    self.assertTrue(all_from(backs, names, there), (backs.code.blocks(), start, turns))
                    self.assertEqual(again(backs, start, turns), sorted(self.with_uses(backs, names, there)))
                    found += len(again(backs, start, turns)) > 0
        self.assertGreater(found, 100)

    def needed_on(self, backs, start, turns, point):
        """What the way uses before it makes it, and what its end carries and it does not make."""
        blocks = backs.code.blocks()
        made, needed = set(), set()
        passed = rows_on(backs.code, start, turns)
        for at, (k, r) in enumerate(passed):
            if at and r == 0:
                made |= set(dict(blocks[k][0]))
            if r < len(blocks[k][1]):
                row = blocks[k][1][r]
                name, read = made_and_read(backs, row)
                if row[0] in ("guard", "look"):
                    read = [row[1]] if row[0] == "guard" else []
            else:
                end = blocks[k][2]
                goals = {"return": [], "go": [end[1:]], "if": list(end[2:])}[end[0]]
                name, read = None, [*([] if end[0] == "go" else [end[1]]), *[given for _, goal in goals for given in goal]]
            needed |= set(read) - made
            made.add(name)
        return needed | (set() if point is None else set(carried(backs, point)) - made)

    def with_uses(self, backs, names, there):
        found = set()
        for name in names:
            if name not in there:
                found |= {name, *self.with_uses(backs, made_and_read(backs, again_rows(backs)[name])[1], there)}
        return found

    def test_thinned_frame_states(self):
        done = 0
        for backs in self.each_backs(102, 200):
            try:
                told = thinned(backs)
            except LimitExceeded:
                continue
            for state in backs.states():
                point = state.point
                kept = carried(backs, point)
                thin = told.state_at(point)
                self.assertLessEqual(set(thin.registers()), set(kept))
                self.assertEqual([thin.own(), thin.claims(), thin.point], [state.own(), state.claims(), point])
                rows = {name: row for name, row in again_rows(backs).items() if name not in kept}
                frames = [(name, at, {key: self.over(recipe, rows) for key, recipe in recipes.items()}) for name, at, recipes in state.frames()]
                self.assertEqual(thin.frames(), frames)
                done += frames != state.frames()
        self.assertGreater(done, 50)

    def over(self, recipe, rows):
        """A recipe with all registers of the rows computed again."""
        if recipe[0] in AGAIN[2:]:
            return (recipe[0], self.over(recipe[1], rows), self.over(recipe[2], rows))
        if recipe[0] != "in" or recipe[1] not in rows:
            return recipe
        row = rows[recipe[1]]
        if row[0] == "number":
            return ("number", row[2])
        if row[0] == "nil":
            return ("nil",)
        return (row[0], self.over(("in", row[2]), rows), self.over(("in", row[3]), rows))


if __name__ == "__main__":
    unittest.main()
