import copy
import random
import unittest

from backframes.carried import to_come
from backframes.code import Code
from backframes.entering import entered_run, entering, entries, findings, finds, unfound
from backframes.errors import InvalidArgument, InvalidCode, InvalidNumber, LimitExceeded
from backframes.frames import Backs, FrameState, built
from backframes.heaps import objects_met, parting_paths
from backframes.machine import Machine, State, finished, going_on, outcome
from backframes.runs import CodeRun, ridden, rode
from backframes.source import Source
from tests.samples import BOX, CELL, EMPTY, all_backs, all_source, function_source, numbers, objects, odd_things
from tests.test_runs import list_backs
from tests.wild import AGAIN, wild_backs

MOST = 10 ** 60


def example():
    s = Source([], [("f", [("x", "number")], [], "number", [("see", "x"), ("return", "x")])])
    code = Code(s, "f", [([("a", "number")], [("number", "c", 3), ("add", "t", "a", "c"), ("look", 1), ("see", "t")], ("return", "a"))])
    return Backs(code, [FrameState(code, 1, [("f", 0, {"x": ("sub", ("in", "t"), ("number", 1))})], unmade={}, own={}, claims=[])])


PARAMS = numbers("p", "q") + objects("o", "l")
VARIABLES = {"a": "number", "b": "number", "c": "number", "d": "number", "u": "object", "v": "object", "w": "object"}


def backs_of(rows, recipes, behind=(), end="p", point=("look", 0), unmade=None, own=None, claims=()):
    """Code with one point, 0, behind some rows over numbers p and q and objects o and l."""
    source = function_source([("see", "a"), ("return", "b")], [("h", "number"), ("i", "number"), ("j", "object"), ("k", "object")], list(VARIABLES.items()))
    code = Code(source, "f", [(PARAMS, [*rows, point, *behind], ("return", end))])
    frame = ("f", 0, {"a": ("number", 0), "b": ("number", 0), **recipes})
    return Backs(code, [FrameState(code, 0, [frame], unmade=unmade or {}, own=own or {}, claims=list(claims))])


def state_of(backs, heap=None, row=0, **values):
    variables = {"h": 0, "i": 0, "j": None, "k": None, **{name: 0 if kind == "number" else None for name, kind in VARIABLES.items()}}
    return State(backs.code.source, [("f", row, {**variables, **values})], heap or {})


def thing(number):
    return ("object", number)


def cell(item=0, after=None):
    return ("cell", {"item": item, "next": after})


def found_things(backs, point=0):
    return [found for found, _ in findings(backs, point)]


IN = {name: ("in", name) for name in "pqolmnstxy"}


class TestExample(unittest.TestCase):
    def test_the_example_of_the_document(self):
        backs = example()
        told = [unfound(backs, 1), entering(backs, 1, State(backs.code.source, [("f", 0, {"x": 9})], {}))]
        self.assertEqual(told, [[], ("entered", {"a": 7, "t": 10}, {})])
        steps = [(("in", "t"), ("variable", 0, "x")), (("in", "c"), ("row", "c")), (("in", "a"), ("row", "t"))]
        self.assertIs(finds(backs, 1, steps), True)

    def test_arguments_by_name(self):
        backs = example()
        state = State(backs.code.source, [("f", 0, {"x": 9})], {})
        self.assertEqual(len(findings(point=1, backs=backs)), 3)
        self.assertIs(finds(steps=[], point=1, backs=backs), True)
        self.assertEqual(unfound(point=1, backs=backs), [])
        self.assertEqual(entering(state=state, point=1, backs=backs)[0], "entered")
        self.assertEqual(entries(state=state, backs=backs), [(1, "entered")])
        run = entered_run(choice=None, state=state, point=1, backs=backs)
        self.assertEqual((run.registers(), run.place()), ({"a": 7, "c": 0, "t": 10}, (0, 3)))
        with self.assertRaises(TypeError):
            entered_run(backs, 1, state, None)


class TestFindings(unittest.TestCase):
    def check(self, backs, things, rows=()):
        """What can be found by a frame state; rows are those of numbers, which are found anyhow."""
        self.assertEqual(sorted(found_things(backs)), sorted([*things, *[("in", name) for name in rows]]))
        self.assertTrue(finds(backs, 0, findings(backs, 0)))

    def test_variables(self):
        self.check(backs_of([], {"a": IN["p"], "u": IN["o"]}), [IN["p"], IN["o"]])
        self.check(backs_of([], {"a": IN["p"], "b": IN["p"]}), [IN["p"]])
        self.check(backs_of([], {}), [])

    def test_sums_of_which_one_part_is_known(self):
        one = ("number", 1)
        for recipe in (("add", IN["p"], one), ("add", one, IN["p"]), ("sub", IN["p"], one), ("sub", one, IN["p"]),
                       ("sub", ("add", one, one), ("sub", one, ("add", IN["p"], one)))):
            self.check(backs_of([], {"a": recipe}), [IN["p"]])
        for word in ("times", "less", "same"):
            self.check(backs_of([], {"a": (word, IN["p"], one)}), [])
            self.check(backs_of([], {"a": ("add", one, (word, IN["p"], one))}), [])
            self.check(backs_of([], {"a": ("add", (word, one, one), IN["p"])}), [IN["p"]])
        self.check(backs_of([], {"a": ("add", IN["p"], IN["q"])}), [])
        self.check(backs_of([], {"a": ("add", IN["p"], IN["p"])}), [])
        self.check(backs_of([], {"a": ("add", IN["p"], IN["q"]), "b": IN["q"]}), [IN["p"], IN["q"]])
        self.check(backs_of([], {"a": ("sub", IN["p"], ("times", IN["q"], IN["q"])), "b": IN["q"]}), [IN["p"], IN["q"]])
        self.check(backs_of([], {"a": ("sub", ("times", IN["q"], IN["q"]), IN["p"]), "b": IN["p"]}), [IN["p"]])
        self.check(backs_of([], {"a": ("same", IN["o"], ("nil",)), "u": ("nil",)}), [])

    def test_claims(self):
        recipe = ("sub", IN["p"], ("number", 4))
        self.check(backs_of([], {}, claims=[("zero", recipe)]), [IN["p"]])
        self.check(backs_of([], {}, claims=[("other", recipe)]), [])
        self.check(backs_of([], {}, claims=[("other", recipe), ("zero", IN["q"])]), [IN["q"]])
        self.assertEqual(findings(backs_of([], {}, claims=[("other", recipe), ("zero", IN["q"])]), 0), [(IN["q"], ("claim", 1))])

    def test_rows(self):
        rows = [("number", "n", 5), ("nil", "m"), ("add", "s", "p", "n"), ("sub", "t", "q", "s")]
        self.check(backs_of(rows, {}), [], ["n", "m"])
        self.check(backs_of(rows, {"a": IN["s"]}), [IN["p"], IN["s"]], ["n", "m"])
        self.check(backs_of(rows, {"a": IN["p"]}), [IN["p"], IN["s"]], ["n", "m"])
        self.check(backs_of(rows, {"a": IN["t"]}), [IN["t"]], ["n", "m"])
        self.check(backs_of(rows, {"a": IN["t"], "b": IN["s"]}), [IN["p"], IN["q"], IN["s"], IN["t"]], ["n", "m"])
        self.check(backs_of(rows, {"a": IN["t"], "b": IN["q"]}), [IN["p"], IN["q"], IN["s"], IN["t"]], ["n", "m"])
        self.check(backs_of([("add", "s", "p", "p")], {"a": IN["s"]}), [IN["s"]])
        self.check(backs_of([("add", "s", "p", "q")], {"a": IN["s"]}), [IN["s"]])

    def test_rows_that_tell_no_operand(self):
        for word in ("times", "less", "same"):
            rows = [("number", "n", 5), (word, "s", "p", "n")]
            self.check(backs_of(rows, {"a": IN["s"]}), [IN["s"]], ["n"])
            self.check(backs_of(rows, {"a": IN["p"]}), [IN["p"], IN["s"]], ["n"])
        self.check(backs_of([("same", "s", "o", "l")], {"a": IN["s"], "u": IN["o"]}), [IN["s"], IN["o"]])
        self.check(backs_of([("same", "s", "o", "l")], {"v": IN["l"], "u": IN["o"]}), [IN["s"], IN["o"], IN["l"]])

    def test_leaves_have_no_equations(self):
        rows = [("get", "x", "o", "item"), ("new", "y", "cell"), ("call", "s", "f", ["p", "q", "o", "l"])]
        self.check(backs_of(rows, {"u": IN["o"], "a": IN["p"]}), [IN["o"], IN["p"]])
        self.check(backs_of(rows, {"a": IN["x"], "u": IN["y"], "b": IN["s"]}), [IN["x"], IN["y"], IN["s"]])

    def test_registers_that_do_not_stand_there(self):
        backs = backs_of([], {"a": IN["p"]}, behind=[("number", "n", 1), ("add", "s", "p", "n")])
        self.check(backs, [IN["p"]])

    def test_unmade_objects(self):
        unmade = {0: cell(IN["p"], ("unmade", 2)), 2: cell(("add", IN["q"], IN["p"]), IN["o"]), 3: cell(("number", 0), IN["l"])}
        self.check(backs_of([], {"u": ("unmade", 0)}, unmade=unmade), [("unmade", 0), ("unmade", 2), IN["p"], IN["q"], IN["o"]])
        self.check(backs_of([], {"u": ("unmade", 2)}, unmade=unmade), [("unmade", 2), IN["o"]])
        self.check(backs_of([], {"u": ("unmade", 2), "a": IN["q"]}, unmade=unmade), [("unmade", 2), IN["o"], IN["q"], IN["p"]])
        self.check(backs_of([], {"a": ("same", ("unmade", 0), IN["o"])}, unmade=unmade), [])

    def test_own_objects(self):
        rows = [("new", "x", "cell"), ("new", "y", "cell")]
        own = {"x": cell(IN["p"], IN["y"]), "y": cell(("sub", IN["q"], IN["p"]), IN["o"])}
        self.check(backs_of(rows, {}, own=own), [])
        self.check(backs_of(rows, {"u": IN["x"]}, own=own), [IN["x"], IN["y"], IN["p"], IN["q"], IN["o"]])
        self.check(backs_of(rows, {"u": IN["y"]}, own=own), [IN["y"], IN["o"]])

    def test_frames(self):
        rows = [("call", "c", "f", ["a", "b"]), ("return", "c")]
        source = Source([], [("f", numbers("a", "b"), numbers("c"), "number", rows)])
        code = Code(source, "f", [(numbers("p", "q"), [("add", "t", "p", "q"), ("look", 0)], ("return", "q"))])
        frames = [("f", 0, {"a": IN["t"]}), ("f", 0, {}), ("f", 1, {"c": IN["p"]})]
        backs = Backs(code, [FrameState(code, 0, frames, unmade={}, own={}, claims=[])])
        self.assertEqual(sorted(findings(backs, 0)), [(IN["p"], ("variable", 2, "c")), (IN["q"], ("row", "t")), (IN["t"], ("variable", 0, "a"))])

    def test_what_is_returned_is_new(self):
        backs = example()
        findings(backs, 1).clear()
        unfound(backs, 1).append("a")
        self.assertEqual((len(findings(backs, 1)), unfound(backs, 1)), (3, []))


class TestFinds(unittest.TestCase):
    def test_each_step(self):
        backs = example()
        t, c, a = (IN["t"], ("variable", 0, "x")), (("in", "c"), ("row", "c")), (("in", "a"), ("row", "t"))
        for steps in ([], [t], [c], [t, c], [c, t], [c, t, a]):
            self.assertIs(finds(backs, 1, steps), True, steps)
        for steps in ([a], [t, a], [c, a], [t, t], [c, c], [t, c, a, t], [t, c, a, a], [t, a, c], [a, t, c]):
            self.assertIs(finds(backs, 1, steps), False, steps)
        # Once t has been found by its row it is not found again.
        wrong = [(IN["t"], ("row", "t")), (("in", "a"), ("variable", 0, "x")), (IN["t"], ("variable", 1, "x")), (IN["t"], ("variable", 0, "y")),
                 (("in", "c"), ("row", "t")), (("unmade", 0), ("row", "c")), (("in", "z"), ("row", "z")), (IN["t"], ("claim", 0)), (IN["t"], ("own", "t", "item")),
                 (None, ("row", "c")), (None, ("row", "t")), (("in", "a"), ("row", "a")), (IN["t"], ("unmade", 0, "item")), (("number", 3), ("row", "c"))]
        for step in wrong:
            self.assertIs(finds(backs, 1, [step]), False, step)
            self.assertIs(finds(backs, 1, [t, step]), False, step)

    def test_the_row_of_a_register_that_is_found_otherwise(self):
        backs = backs_of([("number", "n", 5), ("add", "s", "p", "n")], {"a": IN["p"], "b": IN["s"]})
        n, p, s = (IN["n"], ("row", "n")), (IN["p"], ("variable", 0, "a")), (IN["s"], ("variable", 0, "b"))
        self.assertTrue(finds(backs, 0, [n, p, (IN["s"], ("row", "s"))]))
        self.assertTrue(finds(backs, 0, [s, n, (IN["p"], ("row", "s"))]))
        self.assertTrue(finds(backs, 0, [s, p, (IN["n"], ("row", "s"))]))
        self.assertFalse(finds(backs, 0, [s, p, n, (IN["s"], ("row", "s"))]))
        self.assertFalse(finds(backs, 0, [p, n, (IN["p"], ("row", "s"))]))

    def test_objects_must_be_found_first(self):
        backs = backs_of([("new", "x", "cell")], {"u": ("unmade", 1), "v": IN["x"]}, unmade={1: cell(IN["p"], ("nil",))}, own={"x": cell(IN["q"], ("nil",))})
        unmade, own = (("unmade", 1), ("variable", 0, "u")), (IN["x"], ("variable", 0, "v"))
        p, q = (IN["p"], ("unmade", 1, "item")), (IN["q"], ("own", "x", "item"))
        for steps, told in (([p], False), ([q], False), ([unmade, p], True), ([own, q], True), ([unmade, q], False), ([own, unmade, q, p], True),
                            ([own, (IN["q"], ("unmade", 1, "item"))], False), ([unmade, (IN["p"], ("own", 1, "item"))], False)):
            self.assertIs(finds(backs, 0, steps), told)

    def test_odd_things(self):
        backs = backs_of([], {"a": IN["p"], "u": ("unmade", 1)}, unmade={1: cell(IN["q"], ("nil",))})
        good = [(("unmade", 1), ("variable", 0, "u")), (IN["q"], ("unmade", 1, "item"))]
        self.assertTrue(finds(backs, 0, good))
        for odd in odd_things():
            for steps in (odd, [odd], [(odd, ("variable", 0, "u"))], [(("unmade", odd), ("variable", 0, "u"))], [(("unmade", 1), odd)], [(IN["p"], ("variable", 0, odd))],
                          [(("unmade", 1), ("variable", odd, "u"))], [good[0], odd], [good[0], (IN["q"], ("unmade", odd, "item"))], [(("in", odd), ("variable", 0, "a"))]):
                if steps != []:
                    self.assertIs(finds(backs, 0, steps), False)
        for steps in (tuple(good), [list(good[0])], [(*good[0], 1)], [(("unmade", True), ("variable", 0, "u"))], [(("unmade", 1), ("variable", False, "u"))],
                      [(("unmade", 1.0), ("variable", 0, "u"))], [good[0], (IN["q"], ("unmade", True, "item"))], [(["unmade", 1], ("variable", 0, "u"))],
                      [(("unmade", 1), ["variable", 0, "u"])], [(("unmade", 1), ("variable", 0.0, "u"))], {0: good[0]}, "", (), {}, None, 0):
            self.assertIs(finds(backs, 0, steps), False, steps)


class TestUnfound(unittest.TestCase):
    def test_what_is_to_come(self):
        backs = backs_of([("add", "s", "p", "q")], {"a": IN["p"]}, behind=[("see", "s"), ("see", "o")])
        self.assertEqual((to_come(backs, 0), unfound(backs, 0)), (["o", "p", "s"], ["o", "s"]))
        self.assertEqual(unfound(backs_of([("add", "s", "p", "q")], {"a": IN["p"], "b": IN["q"]}, behind=[("see", "s")]), 0), [])

    def test_what_is_not_needed(self):
        self.assertEqual(unfound(backs_of([("add", "s", "q", "q")], {"a": IN["p"]}), 0), [])

    def test_guards(self):
        for point, told in ((("guard", "q", 0), ["q"]), (("look", 0), []), (("guard", "p", 0), [])):
            self.assertEqual(unfound(backs_of([], {"a": IN["p"]}, point=point), 0), told)

    def test_claims(self):
        claims = [("zero", ("times", IN["q"], IN["q"])), ("other", ("same", IN["o"], IN["l"]))]
        self.assertEqual(unfound(backs_of([], {"a": IN["p"], "u": IN["o"]}, claims=claims), 0), ["l", "q"])
        self.assertEqual(unfound(backs_of([], {"a": IN["p"]}, claims=[("zero", IN["q"])]), 0), [])

    def test_own_objects(self):
        rows = [("new", "x", "cell"), ("new", "y", "cell")]
        own = {"x": cell(("times", IN["q"], IN["q"]), IN["o"]), "y": cell(("number", 0), IN["l"])}
        self.assertEqual(unfound(backs_of(rows, {"a": IN["p"], "u": IN["x"]}, own=own), 0), ["q", "y"])
        self.assertEqual(unfound(backs_of(rows, {"a": IN["p"], "u": IN["y"]}, own=own), 0), ["x"])
        self.assertEqual(unfound(backs_of(rows, {"a": IN["p"], "u": IN["x"], "v": IN["y"], "b": IN["q"]}, own=own), 0), [])

    def test_unmade_objects_are_not_told(self):
        backs = backs_of([], {"a": ("same", ("unmade", 0), ("nil",)), "b": IN["p"]}, unmade={0: cell(("number", 1), ("nil",))})
        self.assertEqual(unfound(backs, 0), [])
        backs = backs_of([], {"b": IN["p"]}, unmade={0: cell(IN["q"], ("nil",))})
        self.assertEqual(unfound(backs, 0), ["q"])


class TestEntering(unittest.TestCase):
    def test_frames(self):
        backs = backs_of([], {"a": IN["p"]})
        good = state_of(backs)
        self.assertEqual(entering(backs, 0, good)[0], "entered")
        self.assertEqual(entering(backs, 0, state_of(backs, row=1)), ("frames",))
        calls = [("call", "c", "f", ["a", "b"]), ("call", "c", "g", ["a"]), ("return", "c")]
        source = Source([], [("f", numbers("a", "b"), numbers("c"), "number", calls), ("g", numbers("a"), numbers("c"), "number", [("call", "c", "f", ["a", "a"]), ("return", "a")])])
        code = Code(source, "f", [(numbers("p", "q"), [("look", 0)], ("return", "q"))])
        frames = [("f", 0, {"a": IN["p"]}), ("f", 2, {"c": IN["q"]})]
        backs = Backs(code, [FrameState(code, 0, frames, unmade={}, own={}, claims=[])])
        held = {"a": 1, "b": 2, "c": 3}
        self.assertEqual(entering(backs, 0, State(source, [("f", 0, held), ("f", 2, held)], {})), ("entered", {"p": 1, "q": 3}, {}))
        inner = {"a": 1, "c": 3}
        for told in ([("f", 0, held)], [("f", 0, held), ("f", 0, held)], [("f", 0, held), ("f", 0, held), ("f", 2, held)], [("f", 1, held), ("g", 0, inner)],
                     [("f", 2, held)], [("g", 0, inner), ("f", 2, held)]):
            self.assertEqual(entering(backs, 0, State(source, told, {})), ("frames",))

    def test_open(self):
        backs = backs_of([], {"a": IN["p"]}, behind=[("see", "q"), ("see", "o")])
        self.assertEqual(entering(backs, 0, state_of(backs)), ("open", ["o", "q"]))
        self.assertEqual(entering(backs, 0, state_of(backs, row=1)), ("frames",))

    def test_values_of_registers(self):
        rows = [("number", "n", 5), ("sub", "s", "p", "n"), ("less", "t", "p", "n"), ("same", "x", "o", "l")]
        behind = [("see", name) for name in ("n", "s", "t", "x", "o", "l")]
        backs = backs_of(rows, {"a": ("sub", ("number", 1), IN["s"]), "u": IN["o"], "v": IN["l"]}, behind)
        heap = {3: cell(1, thing(4)), 4: cell(2), 9: cell(7, thing(3))}
        self.assertEqual(entering(backs, 0, state_of(backs, heap, a=-8, u=thing(3), v=None)),
                         ("entered", {"p": 14, "n": 5, "s": 9, "t": 0, "x": 0, "o": thing(3), "l": None}, {3: heap[3], 4: heap[4]}))
        self.assertEqual(entering(backs, 0, state_of(backs, a=6))[1], {"p": 0, "n": 5, "s": -5, "t": 1, "x": 1, "o": None, "l": None})

    def test_numbers_of_any_size(self):
        rows = [("times", "s", "p", "p"), ("add", "t", "s", "s")]
        backs = backs_of(rows, {"a": ("sub", IN["p"], ("number", 1))}, [("see", "t")])
        great = 10 ** 59
        self.assertEqual(entering(backs, 0, state_of(backs, a=great - 1)), ("entered", {"p": great, "t": 2 * great * great}, {}))

    def test_equations_that_do_not_hold(self):
        backs = backs_of([], {"a": IN["p"], "b": ("add", IN["p"], ("number", 1))})
        self.assertEqual(entering(backs, 0, state_of(backs, a=4, b=5))[0], "entered")
        self.assertEqual(entering(backs, 0, state_of(backs, a=4, b=6)), ("values",))
        backs = backs_of([], {"a": ("number", 3), "b": IN["p"]})
        self.assertEqual([entering(backs, 0, state_of(backs, a=a))[0] for a in (3, 4)], ["entered", "values"])
        backs = backs_of([("number", "n", 5), ("add", "s", "p", "n")], {"a": IN["p"], "b": IN["s"]})
        self.assertEqual([entering(backs, 0, state_of(backs, a=4, b=b))[0] for b in (9, 8)], ["entered", "values"])
        backs = backs_of([("number", "n", 5)], {"a": IN["n"], "b": IN["p"]})
        self.assertEqual([entering(backs, 0, state_of(backs, a=a))[0] for a in (5, 0)], ["entered", "values"])
        backs = backs_of([], {"u": ("nil",), "b": IN["p"]})
        self.assertEqual([entering(backs, 0, state_of(backs, {1: cell()}, u=u))[0] for u in (None, thing(1))], ["entered", "values"])
        backs = backs_of([("same", "s", "o", "l")], {"a": ("in", "s"), "u": IN["o"], "v": IN["l"], "b": IN["p"]})
        heap = {1: cell(), 2: cell()}
        told = [entering(backs, 0, state_of(backs, heap, a=a, u=thing(1), v=v))[0] for a, v in ((1, thing(1)), (0, thing(1)), (0, thing(2)), (1, thing(2)), (0, None))]
        self.assertEqual(told, ["entered", "values", "entered", "values", "entered"])

    def test_equations_that_are_not_known_do_not_matter(self):
        backs = backs_of([], {"a": ("times", IN["q"], IN["q"]), "b": IN["p"]}, own={})
        self.assertEqual(entering(backs, 0, state_of(backs, a=-1))[0], "open")
        rows = [("times", "s", "q", "q")]
        backs = backs_of(rows, {"a": IN["s"], "b": IN["p"]})
        self.assertEqual(entering(backs, 0, state_of(backs, a=-1))[0], "entered")

    def test_variables_without_recipes_do_not_matter(self):
        backs = backs_of([], {"a": IN["p"]})
        self.assertEqual(entering(backs, 0, state_of(backs, {1: cell()}, c=5, u=thing(1), h=7))[0], "entered")

    def test_claims(self):
        for word, told in (("zero", ["values", "entered", "values"]), ("other", ["entered", "values", "entered"])):
            backs = backs_of([], {"a": IN["p"]}, claims=[(word, ("sub", IN["p"], ("number", 5)))])
            self.assertEqual([entering(backs, 0, state_of(backs, a=a))[0] for a in (4, 5, 6)], told)
        backs = backs_of([], {"b": IN["p"]}, claims=[("zero", ("sub", IN["q"], ("number", 5)))], behind=[("see", "q")])
        self.assertEqual(entering(backs, 0, state_of(backs))[1], {"p": 0, "q": 5})

    UNMADE = {0: cell(IN["p"], ("unmade", 1)), 1: ("box", {"item": ("number", 7)})}

    def test_unmade_objects(self):
        backs = backs_of([], {"u": ("unmade", 0)}, unmade=self.UNMADE)
        heap = {5: cell(3, thing(2)), 2: ("box", {"item": 7}), 8: ("box", {"item": 7})}
        self.assertEqual(entering(backs, 0, state_of(backs, heap, u=thing(5))), ("entered", {"p": 3}, {}))
        wrong = [({**heap, 2: ("box", {"item": 8})}, thing(5)), ({**heap, 5: cell(3)}, thing(5)), ({**heap, 5: cell(3, thing(5))}, thing(5)), (heap, thing(2)), (heap, None),
                 ({**heap, 2: cell(7)}, thing(5))]
        for heap, u in wrong:
            self.assertEqual(entering(backs, 0, state_of(backs, heap, u=u)), ("values",))

    def test_own_objects(self):
        own = {"x": cell(IN["p"], IN["y"]), "y": ("box", {"item": ("number", 7)})}
        backs = backs_of([("new", "x", "cell"), ("new", "y", "box")], {"u": IN["x"]}, [("see", "x")], own=own)
        heap = {5: cell(3, thing(2)), 2: ("box", {"item": 7}), 8: ("box", {"item": 7})}
        self.assertEqual(entering(backs, 0, state_of(backs, heap, u=thing(5))), ("entered", {"p": 3, "x": thing(5)}, {5: heap[5], 2: heap[2]}))
        wrong = [({**heap, 2: ("box", {"item": 8})}, thing(5)), ({**heap, 5: cell(3)}, thing(5)), ({**heap, 5: cell(3, thing(5))}, thing(5)), (heap, thing(2)), (heap, None)]
        for heap, u in wrong:
            self.assertEqual(entering(backs, 0, state_of(backs, heap, u=u)), ("values",))

    def test_own_registers_that_are_nil(self):
        backs = backs_of([("nil", "x")], {"a": IN["p"]}, own={"x": ("empty", {})})
        self.assertEqual(entering(backs, 0, state_of(backs)), ("values",))

    def test_two_of_them_are_one_object(self):
        unmade = {0: ("box", {"item": ("number", 7)}), 1: ("box", {"item": ("number", 7)})}
        own = {"x": ("box", {"item": ("number", 7)})}
        heap = {k: ("box", {"item": 7}) for k in (1, 2, 3)}
        backs = backs_of([("new", "x", "box")], {"a": IN["p"], "u": ("unmade", 0), "v": ("unmade", 1), "w": IN["x"]}, unmade=unmade, own=own)
        for u, v, w, told in ((1, 2, 3, "entered"), (1, 1, 3, "values"), (1, 2, 1, "values"), (1, 2, 2, "values")):
            self.assertEqual(entering(backs, 0, state_of(backs, heap, u=thing(u), v=thing(v), w=thing(w)))[0], told)

    def test_unmade_objects_that_are_not_found(self):
        unmade = {0: ("box", {"item": ("number", 7)}), 1: ("box", {"item": ("number", 7)})}
        backs = backs_of([], {"a": ("same", ("unmade", 0), ("unmade", 1)), "b": IN["p"]}, unmade=unmade)
        self.assertEqual([entering(backs, 0, state_of(backs, a=a))[0] for a in (0, 1, 5)], ["entered"] * 3)
        backs = backs_of([], {"a": ("same", ("unmade", 0), ("unmade", 1)), "b": IN["p"], "u": ("unmade", 0), "v": ("unmade", 1)}, unmade=unmade)
        heap = {1: ("box", {"item": 7}), 2: ("box", {"item": 7})}
        self.assertEqual([entering(backs, 0, state_of(backs, heap, a=a, u=thing(1), v=thing(2)))[0] for a in (0, 1)], ["entered", "values"])

    def test_shared_by_variables(self):
        unmade = {0: ("box", {"item": IN["p"]})}
        backs = backs_of([], {"u": ("unmade", 0), "v": IN["o"]}, unmade=unmade)
        heap = {1: ("box", {"item": 7}), 2: ("box", {"item": 7})}
        self.assertEqual([entering(backs, 0, state_of(backs, heap, u=thing(1), v=v))[0] for v in (None, thing(2), thing(1))], ["entered", "entered", "shared"])
        self.assertEqual(entering(backs, 0, state_of(backs, heap, u=thing(1), w=thing(1), k=thing(1)))[0], "entered")
        both = backs_of([], {"u": ("unmade", 0), "v": ("unmade", 0)}, unmade=unmade)
        self.assertEqual([entering(both, 0, state_of(both, heap, u=thing(1), v=thing(v)))[0] for v in (1, 2)], ["entered", "values"])
        own = {"x": ("box", {"item": IN["p"]})}
        backs = backs_of([("new", "x", "box")], {"u": IN["x"], "v": IN["o"]}, own=own)
        self.assertEqual([entering(backs, 0, state_of(backs, heap, u=thing(1), v=thing(v)))[0] for v in (2, 1)], ["entered", "shared"])
        backs = backs_of([("new", "x", "box")], {"u": IN["x"], "v": IN["x"]}, own=own)
        self.assertEqual(entering(backs, 0, state_of(backs, heap, u=thing(1), v=thing(1)))[0], "entered")

    def test_shared_by_fields_of_unmade_and_own_objects(self):
        for after, told in ((("unmade", 0), "entered"), (IN["o"], "shared")):
            backs = backs_of([], {"u": ("unmade", 0), "b": IN["p"]}, unmade={0: cell(IN["p"], after)})
            self.assertEqual(entering(backs, 0, state_of(backs, {1: cell(0, thing(1))}, u=thing(1)))[0], told)
        for after, told in ((IN["x"], "entered"), (IN["o"], "shared")):
            backs = backs_of([("new", "x", "cell")], {"u": IN["x"], "b": IN["p"]}, own={"x": cell(IN["p"], after)})
            self.assertEqual(entering(backs, 0, state_of(backs, {1: cell(0, thing(1))}, u=thing(1)))[0], told)

    def test_shared_by_other_objects(self):
        backs = backs_of([], {"u": ("unmade", 0), "v": IN["o"]}, unmade={0: cell(IN["p"], IN["l"])})
        heap = {1: cell(7, thing(4)), 2: cell(0, thing(3)), 3: cell(0, thing(1)), 4: cell(), 5: cell(0, thing(4))}
        for v, told in ((2, "shared"), (3, "shared"), (4, "entered"), (5, "entered")):
            self.assertEqual(entering(backs, 0, state_of(backs, heap, u=thing(1), v=thing(v)))[0], told)
        heap[4] = cell(0, thing(1))
        self.assertEqual(entering(backs, 0, state_of(backs, heap, u=thing(1)))[0], "shared")
        self.assertEqual(entering(backs, 0, state_of(backs, {**heap, 4: cell()}, u=thing(1), w=thing(3)))[0], "entered")

    def test_guards(self):
        backs = backs_of([], {"a": IN["p"]}, point=("guard", "p", 0))
        self.assertEqual([entering(backs, 0, state_of(backs, a=a))[0] for a in (0, 1, -1)], ["guard", "entered", "entered"])
        backs = backs_of([], {"a": IN["p"], "b": IN["p"]}, point=("guard", "p", 0))
        self.assertEqual(entering(backs, 0, state_of(backs, a=0, b=1)), ("values",))

    def test_which_word_is_first(self):
        unmade = {0: ("box", {"item": ("number", 7)})}
        recipes = {"u": ("unmade", 0), "v": IN["o"], "a": IN["p"], "b": IN["p"]}
        backs = backs_of([], recipes, point=("guard", "p", 0), unmade=unmade)
        more = backs_of([], recipes, [("see", "q")], point=("guard", "p", 0), unmade=unmade)
        heap = {1: ("box", {"item": 7})}
        bad = {"u": thing(1), "v": thing(1)}
        self.assertEqual(entering(more, 0, state_of(more, heap, row=1, b=1, **bad)), ("frames",))
        self.assertEqual(entering(more, 0, state_of(more, heap, b=1, **bad)), ("open", ["q"]))
        self.assertEqual(entering(backs, 0, state_of(backs, heap, b=1, **bad)), ("values",))
        self.assertEqual(entering(backs, 0, state_of(backs, heap, **bad)), ("shared",))
        self.assertEqual(entering(backs, 0, state_of(backs, heap, u=thing(1))), ("guard",))
        self.assertEqual(entering(backs, 0, state_of(backs, heap, u=thing(1), a=2, b=2))[0], "entered")

    def test_what_is_returned_is_new(self):
        backs = backs_of([], {"u": IN["o"], "a": IN["p"]}, [("see", "o")])
        state = state_of(backs, {1: cell(4)}, u=thing(1))
        told = entering(backs, 0, state)
        told[1].clear()
        told[2][1][1]["item"] = 9
        self.assertEqual(entering(backs, 0, state)[2], {1: cell(4)})
        self.assertEqual(state.heap(), {1: cell(4)})

    def test_great_heaps(self):
        backs = backs_of([], {"u": IN["o"], "a": IN["p"]}, [("see", "o")])
        heap = {k: cell(k, thing(k + 1) if k < 2999 else None) for k in range(3000)}
        self.assertEqual(entering(backs, 0, state_of(backs, heap, u=thing(500)))[2], {k: heap[k] for k in range(500, 3000)})


class TestRuns(unittest.TestCase):
    def test_a_run_that_is_entered(self):
        backs = backs_of([("number", "n", 2)], {"u": IN["o"], "a": IN["p"]}, [("add", "s", "p", "n"), ("see", "s"), ("get", "x", "o", "item"), ("see", "x")])
        state = state_of(backs, {4: cell(7)}, a=5, u=thing(4))
        run = entered_run(backs, 0, state)
        self.assertEqual((run.registers(), run.heap(), run.log()), ({"p": 5, "q": 0, "o": thing(4), "l": None, "n": 2, "s": 0, "x": 0}, {4: cell(7)}, []))
        self.assertEqual(rode(run), (("done", 5), [("number", 7), ("number", 7)], None))
        self.assertIsNone(entered_run(backs, 0, state_of(backs, row=1)))
        self.assertIsNone(entered_run(backs_of([], {"a": IN["p"]}, [("see", "q")]), 0, state))

    def test_choices(self):
        backs = list_backs()
        state = going_back(backs, [3], (0, 1))
        self.assertEqual(rode(entered_run(backs, 0, state, choice=(0, 1)))[2], (0, 1))
        for choice in (0, (9, 0), (0, -1), (0, True), [0, 0], *[odd for odd in odd_things() if odd is not None]):
            with self.assertRaises(InvalidArgument) as caught:
                entered_run(backs, 0, state, choice=choice)
            self.assertEqual(caught.exception.part, "choice")
            self.assertIsNone(entered_run(backs, 5, state, choice=choice))

    def test_all_points(self):
        backs = list_backs()
        self.assertEqual(entries(backs, going_back(backs, [2], (2, 1))), [(0, "frames"), (1, "frames"), (2, "entered"), (3, "frames"), (4, "frames"), (5, "frames"), (6, "frames")])
        machine = Machine(backs.code.source, "f", [0])
        machine.steps(2)
        self.assertEqual(entries(backs, machine.state())[5], (5, "entered"))

    def test_code_that_is_right_goes_on_as_the_interpreter(self):
        backs = list_backs()
        entered = 0
        for n in range(4):
            for point in backs.code.points():
                for visit in range(n + 1):
                    state = going_back(backs, [n], (point, visit))
                    if state is None:
                        continue
                    run = entered_run(backs, point, state)
                    self.assertIsNotNone(run)
                    entered += 1
                    result, log, back = rode(run)
                    machine = going_on(state)
                    expected, expected_log = finished(machine)
                    self.assertEqual((log, back), (expected_log, None))
                    self.assertIsNone(parting_paths(machine.heap(), [expected[1]], run.heap(), [result[1]]))
        self.assertGreater(entered, 30)

    def test_moments_of_the_interpreter(self):
        backs = list_backs()
        entered = {}
        for n in range(3):
            machine = Machine(backs.code.source, "f", [n])
            while machine.ended() is None:
                state = machine.state()
                for point, word in entries(backs, state):
                    if word == "entered":
                        entered[point] = True
                        result, log, _ = rode(entered_run(backs, point, state))
                        other = going_on(state)
                        expected, expected_log = finished(other)
                        self.assertEqual((log, result[1] is None), (expected_log, expected[1] is None))
                machine.step()
        self.assertEqual(sorted(entered), backs.code.points())


def going_back(backs, arguments, choice):
    """The state right behind a way back, or None."""
    run = CodeRun(backs, arguments, choice=choice)
    try:
        for _ in range(200):
            if run.went_back() is not None or not run.step():
                break
    except LimitExceeded:
        return None
    if run.went_back() is None:
        return None
    return State(backs.code.source, run.frames(), run.heap())


def known(recipe, found):
    if recipe[0] in ("in", "unmade"):
        return recipe in found
    return recipe[0] in ("number", "nil") or all(known(part, found) for part in recipe[1:])


def value_of(recipe, values):
    if recipe[0] in ("in", "unmade"):
        return values[recipe]
    if recipe[0] in ("number", "nil"):
        return recipe[1] if recipe[0] == "number" else None
    one, other = value_of(recipe[1], values), value_of(recipe[2], values)
    return {"add": lambda: one + other, "sub": lambda: one - other, "times": lambda: one * other, "less": lambda: int(one < other),
            "same": lambda: int(one == other)}[recipe[0]]()


def solved(recipe, value, values):
    """What an equation finds, with its value, or None."""
    if recipe[0] in ("in", "unmade"):
        return None if recipe in values else (recipe, value)
    if recipe[0] == "add":
        for one, other in (recipe[1:], recipe[:0:-1]):
            if known(one, values) and not known(other, values):
                return solved(other, value - value_of(one, values), values)
    if recipe[0] == "sub":
        if known(recipe[1], values) and not known(recipe[2], values):
            return solved(recipe[2], value_of(recipe[1], values) - value, values)
        if known(recipe[2], values) and not known(recipe[1], values):
            return solved(recipe[1], value + value_of(recipe[2], values), values)
    return None


def again_recipe(row):
    if row[0] in ("number", "nil"):
        return ("number", row[2]) if row[0] == "number" else ("nil",)
    return (row[0], ("in", row[2]), ("in", row[3]))


def slow_entering(backs, point, state, chance):
    """What entering tells, with the equations looked at in any order; the second thing is what was found."""
    told = backs.state_at(point)
    if [frame[:2] for frame in told.frames()] != [frame[:2] for frame in state.frames()]:
        return ("frames",), None
    heap = state.heap()
    rows = {row[1]: row for _, block, _ in backs.code.blocks() for row in block if row[0] in AGAIN and row[1] in backs.code.usable(point)}
    objects_told = {**{("unmade", k): one for k, one in told.unmade().items()}, **{("in", name): one for name, one in told.own().items()}}
    values, broken = {}, False

    def equations():
        listed = [(recipe, state.frames()[at][2][name]) for at, (_, _, recipes) in enumerate(told.frames()) for name, recipe in recipes.items()]
        listed += [(recipe, 0) for word, recipe in told.claims() if word == "zero"]
        for key, (title, fields) in objects_told.items():
            if key in values:
                value = values[key]
                there = heap[value[1]][1] if isinstance(value, tuple) and heap[value[1]][0] == title else None
                lost = {"item": 0, "next": None}
                listed += [(recipe, (there or lost)[field]) for field, recipe in fields.items()]
        return listed

    while True:
        found = []
        for recipe, value in equations():
            found.append(solved(recipe, value, values))
        for name, row in rows.items():
            if ("in", name) in values:
                found.append(solved(again_recipe(row), values[("in", name)], values))
            elif known(again_recipe(row), values):
                found.append((("in", name), value_of(again_recipe(row), values)))
        found = [pair for pair in found if pair]
        if not found:
            break
        key, value = chance.choice(found)
        values[key] = value
        if key in objects_told and not (isinstance(value, tuple) and heap[value[1]][0] == objects_told[key][0]):
            broken = True
    needed = set(to_come(backs, point)) | set(told.own())
    k, r = backs.code.place(point)
    row = backs.code.blocks()[k][1][r]
    needed |= {row[1]} if row[0] == "guard" else set()

    def registers_in(recipe):
        return {recipe[1]} if recipe[0] == "in" else set().union(*[registers_in(part) for part in recipe[1:] if isinstance(part, tuple)])

    for _, recipe in told.claims():
        needed |= registers_in(recipe)
    for name, (_, fields) in told.own().items():
        if ("in", name) in values:
            needed = needed.union(*[registers_in(recipe) for recipe in fields.values()])
    lacking = sorted(name for name in needed if ("in", name) not in values)
    if lacking:
        return ("open", lacking), set(values)
    if broken:
        return ("values",), set(values)
    holds = all(value_of(recipe, values) == value for recipe, value in equations() if known(recipe, values))
    holds = holds and all(value_of(again_recipe(row), values) == values[("in", name)] for name, row in rows.items() if known(again_recipe(row), values))
    special = [values[key] for key in objects_told if key in values]
    if not holds or len(special) > len(set(special)) or any(value_of(recipe, values) == 0 for word, recipe in told.claims() if word == "other"):
        return ("values",), set(values)
    allowed = {values[key]: key for key in objects_told if key in values}
    pairs = [(recipe, state.frames()[at][2][name]) for at, (_, _, recipes) in enumerate(told.frames()) for name, recipe in recipes.items()]
    roots = [value for _, value in pairs]
    for key, (_, fields) in objects_told.items():
        if key in values:
            pairs += [(recipe, heap[values[key][1]][1][field]) for field, recipe in fields.items()]
    others = [number for number in objects_met(heap, roots) if thing(number) not in allowed]
    if any(value in allowed and recipe != allowed[value] for recipe, value in pairs) or any(value in allowed for number in others for value in heap[number][1].values()):
        return ("shared",), set(values)
    if row[0] == "guard" and values[("in", row[1])] == 0:
        return ("guard",), set(values)
    registers = {name: values[("in", name)] for name in to_come(backs, point)}
    return ("entered", registers, {number: heap[number] for number in objects_met(heap, list(registers.values()))}), set(values)


class TestRandom(unittest.TestCase):
    def each_state(self, seed, many):
        """Frame states with states to which runs go back, some of them changed."""
        chance = random.Random(seed)
        for _ in range(many):
            backs = wild_backs(chance, most_rows=4)
            for point in backs.code.points():
                state = going_back(backs, [chance.randint(-2, 3), None], (point, chance.randint(0, 1)))
                if state is None or [frame[:2] for frame in state.frames()] != [frame[:2] for frame in backs.state_at(point).frames()]:
                    continue
                yield backs, point, state, chance
                frames, heap = state.frames(), state.heap()
                for _ in range(2):
                    changed, objects_there = copy.deepcopy(frames), copy.deepcopy(heap)
                    self.change(changed, objects_there, chance)
                    yield backs, point, State(backs.code.source, changed, objects_there), chance

    def change(self, frames, heap, chance):
        held = chance.choice([variables for _, _, variables in frames] + [fields for _, fields in heap.values()])
        name = chance.choice(list(held))
        is_object = name in ("q", "o", "x", "next")
        held[name] = chance.choice([None, *[thing(number) for number in heap]]) if is_object else held[name] + chance.randint(-1, 1)

    def test_against_a_plainer_way(self):
        words = {}
        for backs, point, state, chance in self.each_state(108, 500):
            expected, found = slow_entering(backs, point, state, chance)
            told = entering(backs, point, state)
            self.assertEqual(told, expected)
            self.assertEqual(set(found_things(backs, point)), found)
            words[told[0]] = words.get(told[0], 0) + 1
        self.assertEqual(sorted(words), ["entered", "guard", "open", "shared", "values"])
        self.assertGreater(min(words.values()), 2, words)
        self.assertGreater(words["entered"], 80)

    def test_what_is_found_does_not_depend_on_the_order(self):
        chance = random.Random(106)
        for _ in range(150):
            backs = wild_backs(chance)
            for point in backs.code.points():
                steps = findings(backs, point)
                self.assertTrue(finds(backs, point, steps))
                self.assertEqual(len({found for found, _ in steps}), len(steps))
                left = list(steps)
                chance.shuffle(left)
                order = []
                while left:
                    ready = [step for step in left if finds(backs, point, [*order, step])]
                    if not ready:
                        break
                    order.append(ready[0])
                    left.remove(ready[0])
                self.assertEqual(left, [])

    def test_entering_and_going_back_at_once(self):
        done = 0
        for backs, point, state, _ in self.each_state(109, 300):
            told = entering(backs, point, state)
            if told[0] != "entered":
                continue
            done += 1
            _, registers, heap = told
            frame_state = backs.state_at(point)
            again = built(frame_state, registers, heap)
            roots, others = [], []
            for (name, row, recipes), (_, _, held), (other_name, other_row, others_held) in zip(frame_state.frames(), state.frames(), again.frames()):
                self.assertEqual((name, row), (other_name, other_row))
                for variable in recipes:
                    if not isinstance(held[variable], tuple):
                        self.assertEqual(held[variable], others_held[variable])
                    roots.append(held[variable])
                    others.append(others_held[variable])
            self.assertIsNone(parting_paths(state.heap(), roots, again.heap(), others))
        self.assertGreater(done, 60)

    def test_registers_of_the_run(self):
        chance = random.Random(107)
        entered = 0
        for _ in range(300):
            backs = wild_backs(chance)
            for point in backs.code.points():
                run = CodeRun(backs, [chance.randint(-2, 3), None], choice=(point, 0))
                try:
                    for _ in range(200):
                        if run.went_back() is not None or not run.step():
                            break
                except LimitExceeded:
                    continue
                if run.went_back() != (point, 0) or backs.state_at(point).own() or backs.state_at(point).claims():
                    continue
                told = entering(backs, point, State(backs.code.source, run.frames(), run.heap()))
                self.assertIn(told[0], ("entered", "open", "guard"))
                if told[0] == "entered":
                    entered += 1
                    self.assertEqual(told[1], {name: run.registers()[name] for name in to_come(backs, point)})
        self.assertGreater(entered, 50)


class TestWrong(unittest.TestCase):
    ASKS = (
        findings, lambda backs, point: finds(backs, point, None), unfound, lambda backs, point: entering(backs, point, None),
        lambda backs, point: entered_run(backs, point, None, choice=0),
    )

    def test_no_backs(self):
        for odd in odd_things():
            if not isinstance(odd, Backs):
                for ask in (*self.ASKS, lambda backs, point: entries(backs, None)):
                    with self.assertRaises(InvalidCode) as caught:
                        ask(odd, -1)
                    self.assertEqual((caught.exception.part, caught.exception.at), ("backs", None))

    def test_no_point(self):
        for odd in [*odd_things(), 0, 2, -1, "1", [1]]:
            for ask in self.ASKS:
                with self.assertRaises(InvalidNumber) as caught:
                    ask(example(), odd)
                self.assertIs(caught.exception.number, odd)

    def test_no_state(self):
        backs = example()
        other = Source([BOX], [("f", [("x", "number")], [], "number", [("see", "x"), ("return", "x")])])
        wrong = [*odd_things(), State(other, [("f", 0, {"x": 9})], {}), Machine(backs.code.source, "f", [9]), [("f", 0, {"x": 9})]]
        for odd in wrong:
            for ask in (lambda: entering(backs, 1, odd), lambda: entered_run(backs, 1, odd, choice=0), lambda: entries(backs, odd)):
                with self.assertRaises(InvalidArgument) as caught:
                    ask()
                self.assertEqual(caught.exception.part, "state")
        same = Source([], [("f", [("x", "number")], [], "number", [("see", "x"), ("return", "x")])])
        self.assertEqual(entering(backs, 1, State(same, [("f", 0, {"x": 9})], {}))[0], "entered")

    def test_code_without_points(self):
        code = Code(example().code.source, "f", [(numbers("a"), [], ("return", "a"))])
        backs = Backs(code, [])
        self.assertEqual(entries(backs, State(code.source, [("f", 0, {"x": 9})], {})), [])
        for odd in odd_things():
            with self.assertRaises(InvalidArgument):
                entries(backs, odd)

    def test_nothing_changes(self):
        backs = backs_of([], {"u": ("unmade", 0), "v": IN["o"]}, unmade={0: cell(IN["p"], IN["o"])})
        state = state_of(backs, {1: cell(4, thing(2)), 2: cell()}, u=thing(1), v=thing(2))
        frames, heap = state.frames(), state.heap()
        run = entered_run(backs, 0, state)
        rode(run)
        self.assertEqual((state.frames(), state.heap()), (frames, heap))


if __name__ == "__main__":
    unittest.main()
