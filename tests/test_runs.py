import copy
import random
import unittest

from backframes.code import Code
from backframes.errors import InvalidArgument, InvalidCode, InvalidNumber, InvalidState, LimitExceeded
from backframes.frames import Backs, FrameState, built
from backframes.machine import Machine, State, finished, going_on, outcome
from backframes.runs import CodeRun, ridden, rode, run_from
from tests.samples import MAKE, all_backs, function_source, numbers, objects, odd_things, with_part
from tests.wild import wild_backs

MOST = 10 ** 60


def state_at(code, point, row, recipes, unmade=None, name=None, own=None):
    return FrameState(code, point, [(name or code.owner(), row, recipes)], unmade=unmade or {}, own=own or {}, claims=[])


def told(run):
    """All that a run tells of itself."""
    return [run.ended(), run.went_back(), run.place(), run.registers(), run.heap(), run.log(), run.frames()]


# A function that makes a list of its numbers and calls another one; each of its rows can be gone back to.
LIST_ROWS = [
    ("nil", "list"), ("if", "n", 8), ("new", "cell", "cell"), ("put", "cell", "item", "n"), ("put", "cell", "next", "list"),
    ("copy", "list", "cell"), ("call", "n", "down", ["n", "cell"]), ("jump", 1), ("see", "list"), ("return", "list"),
]
DOWN = ("down", [("n", "number"), ("x", "object")], numbers("one"), "number",
        [("number", "one", 1), ("see", "x"), ("sub", "n", "n", "one"), ("see", "n"), ("return", "n")])


def list_backs():
    """Code for the list, in which the call has been put in and the cell is made late."""
    source = function_source(LIST_ROWS, numbers("n"), objects("list", "cell"), "object", [DOWN])
    blocks = [
        (numbers("a"), [("nil", "z")], ("go", 1, ["a", "z"])),
        ([("m", "number"), ("l", "object")], [("look", 0)], ("if", "m", (2, []), (3, []))),
        ([], [("guard", "m", 1), ("new", "c", "cell"), ("put", "c", "item", "m"), ("put", "c", "next", "l"), ("look", 2), ("see", "c"),
              ("number", "one", 1), ("look", 3), ("sub", "d", "m", "one"), ("see", "d"), ("look", 4)], ("go", 1, ["d", "c"])),
        ([], [("look", 5), ("see", "l"), ("look", 6)], ("return", "l")),
    ]
    code = Code(source, "f", blocks)
    in_m, in_l, in_c, in_d = ("in", "m"), ("in", "l"), ("in", "c"), ("in", "d")
    cell = {0: ("cell", {"item": in_m, "next": in_l})}
    call = ("f", 6, {"list": in_c})
    states = [
        state_at(code, 0, 1, {"n": in_m, "list": in_l}),
        state_at(code, 1, 4, {"n": in_m, "list": in_l, "cell": ("unmade", 0)}, cell),
        FrameState(code, 2, [call, ("down", 0, {"n": in_m, "x": in_c})], unmade={}, own={}, claims=[]),
        FrameState(code, 3, [call, ("down", 2, {"n": in_m, "one": ("in", "one")})], unmade={}, own={}, claims=[]),
        FrameState(code, 4, [call, ("down", 4, {"n": in_d})], unmade={}, own={}, claims=[]),
        state_at(code, 5, 8, {"list": in_l}),
        state_at(code, 6, 9, {"list": in_l}),
    ]
    return Backs(code, states)


class Model:
    """A plainer way to run code: calls and ways back are left to machines."""

    def __init__(self, backs, arguments, choice=None):
        self.backs = backs
        self.blocks = backs.code.blocks()
        self.source = backs.code.source
        self.registers = dict(zip([name for name, _ in self.blocks[0][0]], arguments))
        self.heap, self.log, self.place, self.visits = {}, [], (0, 0), {}
        self.choice, self.ended, self.back, self.machine = choice, None, None, None

    def told(self):
        if self.machine is None:
            place = None if self.ended else self.place
            return [self.ended, None, place, dict(self.registers), copy.deepcopy(self.heap), list(self.log), []]
        log = self.log + self.machine.log()
        return [self.machine.ended(), self.back, None, dict(self.registers), self.machine.heap(), log, self.machine.frames()]

    def step(self):
        if self.machine is not None:
            return self.machine.step()
        if self.ended:
            return False
        k, r = self.place
        _, rows, end = self.blocks[k]
        if r < len(rows):
            self.row(rows[r])
        elif end[0] == "return":
            self.ended = ("done", self.registers[end[1]])
        else:
            goal, given = end[1:] if end[0] == "go" else end[2 if self.registers[end[1]] != 0 else 3]
            values = [self.registers[name] for name in given]
            self.registers.update(zip([name for name, _ in self.blocks[goal][0]], values))
            self.place = (goal, 0)
        return True

    def row(self, row):
        point = row[-1] if row[0] in ("guard", "look") else None
        if point is not None:
            visit = self.visits.get(point, 0)
            if (row[0] == "guard" and self.registers[row[1]] == 0) or self.choice == (point, visit):
                self.machine = going_on(built(self.backs.state_at(point), self.registers, self.heap))
                self.back = (point, visit)
                return
            self.visits[point] = visit + 1
        elif row[0] == "call":
            self.registers[row[1]] = self.called(row[2], [self.registers[name] for name in row[3]])
        else:
            self.plain(row)
        self.place = (self.place[0], self.place[1] + 1)

    def called(self, name, arguments):
        function, = [entry for entry in self.source.functions() if entry[0] == name]
        variables = {variable: 0 if kind == "number" else None for variable, kind in function[1] + function[2]}
        variables.update(zip([variable for variable, _ in function[1]], arguments))
        machine = going_on(State(self.source, [(name, 0, variables)], self.heap))
        ended, log = finished(machine)
        self.heap = machine.heap()
        self.log += log
        return ended[1]

    def plain(self, row):
        """A row is done as that of a machine which has it as its only one."""
        held = self.registers
        word = row[0]
        if word in ("number", "nil"):
            held[row[1]] = row[2] if word == "number" else None
        elif word in ("add", "sub", "times"):
            one, other = held[row[2]], held[row[3]]
            number = {"add": one + other, "sub": one - other, "times": one * other}[word]
            if abs(number) > MOST:
                raise LimitExceeded(MOST)
            held[row[1]] = number
        elif word in ("less", "same"):
            held[row[1]] = int(held[row[2]] < held[row[3]] if word == "less" else held[row[2]] == held[row[3]])
        elif word == "new":
            number = max(self.heap, default=-1) + 1
            fields = dict(self.source.classes())[row[2]]
            self.heap[number] = (row[2], {name: 0 if kind == "number" else None for name, kind in fields})
            held[row[1]] = ("object", number)
        elif word == "see":
            value = held[row[1]]
            entry = ("nil",) if value is None else ("number", value)
            self.log.append(("object", self.heap[value[1]][0]) if isinstance(value, tuple) else entry)
        elif word == "get":
            fields = {} if held[row[2]] is None else self.heap[held[row[2]][1]][1]
            held[row[1]] = fields.get(row[3], 0 if row[3] == "item" else None)
        else:
            fields = {} if held[row[1]] is None else self.heap[held[row[1]][1]][1]
            if row[2] in fields:
                fields[row[2]] = held[row[3]]


class TestMaking(unittest.TestCase):
    def test_it_begins_ahead_of_the_first_row(self):
        backs = all_backs()
        run = CodeRun(backs, [5, None])
        self.assertIs(run.backs, backs)
        self.assertEqual(told(run), [None, None, (0, 0), {"a": 5, "b": None}, {}, [], []])

    def test_arguments_by_name(self):
        run = CodeRun(arguments=[5, None], choice=(7, 0), backs=all_backs())
        self.assertEqual(run.registers(), {"a": 5, "b": None})
        self.assertEqual(run.steps(many=2), 2)
        backs = list_backs()
        self.assertEqual(ridden(choice=None, arguments=[0], backs=backs)[2], None)
        run = run_from(choice=(6, 0), heap={}, registers={}, point=5, backs=backs)
        self.assertEqual(rode(run=run)[2], (6, 0))
        for ask in (lambda: CodeRun(backs, [1], None), lambda: ridden(backs, [1], None), lambda: run_from(backs, 0, {}, {}, None)):
            with self.assertRaises(TypeError):
                ask()

    def test_no_backs(self):
        for thing in odd_things():
            if not isinstance(thing, Backs):
                for ask in (lambda: CodeRun(thing, None, choice=0), lambda: ridden(thing, None, choice=0), lambda: run_from(thing, None, None, None, choice=0)):
                    with self.assertRaises(InvalidCode) as caught:
                        ask()
                    self.assertEqual((caught.exception.part, caught.exception.at), ("backs", None))

    def wrong(self, part, arguments, choice):
        for make in (CodeRun, ridden):
            with self.assertRaises(InvalidArgument) as caught:
                make(all_backs(), arguments, choice=choice)
            self.assertEqual(caught.exception.part, part)

    def test_wrong_arguments(self):
        wrong = [[], [1], [1, None, None], (1, None), [None, None], [1, 1], [True, None], [1.0, None], [1, ("object", 0)], [1, ()], [1, False], None, 1, {}]
        for arguments in [*wrong, *odd_things(), *[[1, thing] for thing in odd_things() if thing is not None]]:
            self.wrong("arguments", arguments, 0)
        for thing in odd_things():
            if not isinstance(thing, int) or isinstance(thing, bool):
                self.wrong("arguments", [thing, None], 0)
        CodeRun(all_backs(), [10 ** 100, None])

    def test_wrong_choices(self):
        wrong = [(), (7,), (7, 0, 0), [7, 0], (7, -1), (1, 0), (7, None), (None, 0), (7, True), (7, False), (7, 0.0), (7.0, 0), ("7", 0), 7, 0, "70", {7: 0},
                 (True, 0), ((7, 0), 0)]
        for choice in [*wrong, *[thing for thing in odd_things() if thing is not None]]:
            self.wrong("choice", [1, None], choice)
        for thing in odd_things():
            self.wrong("choice", [1, None], (thing, 0))
            if not isinstance(thing, int) or isinstance(thing, bool) or thing < 0:
                self.wrong("choice", [1, None], (7, thing))

    def test_arguments_are_not_kept(self):
        arguments = [1, None]
        run = CodeRun(all_backs(), arguments)
        arguments[0] = 2
        self.assertEqual(run.registers(), {"a": 1, "b": None})


class TestRows(unittest.TestCase):
    def test_each_form_of_a_row(self):
        run = CodeRun(all_backs(), [5, None])
        self.assertEqual(run.steps(10), 10)
        self.assertEqual(run.place(), (1, 0))
        registers = {"a": 5, "b": None, "n": -7, "s": -2, "d": 7, "t": 35, "l": 1, "z": None, "c": ("object", 0), "e": 0, "u": 1, "i": 5, "x": None}
        self.assertEqual(run.registers(), registers)
        self.assertEqual(run.heap(), {0: ("cell", {"item": 0, "next": None})})
        self.assertEqual(run.steps(6), 6)
        self.assertEqual(run.registers(), {**registers, "g": 0, "h": None, "j": 5})
        self.assertEqual(run.place(), (2, 0))

    def test_registers_come_one_by_one(self):
        run = CodeRun(list_backs(), [1])
        told_registers = []
        while run.step():
            told_registers.append(run.registers())
        self.assertEqual(told_registers[0], {"a": 1, "z": None})
        self.assertEqual(told_registers[1], {"a": 1, "z": None, "m": 1, "l": None})
        self.assertEqual(told_registers[-1]["m"], 0)
        self.assertEqual(told_registers[-1]["c"], ("object", 0))

    def test_places(self):
        run = CodeRun(list_backs(), [0])
        places = [run.place()]
        while run.step():
            places.append(run.place())
        self.assertEqual(places, [(0, 0), (0, 1), (1, 0), (1, 1), (3, 0), (3, 1), (3, 2), (3, 3), None])

    def test_parameters_get_what_is_ahead_of_the_end(self):
        source = function_source([("return", "a")], numbers("a", "b"))
        blocks = [
            (numbers("p", "q"), [], ("go", 1, ["p", "q"])),
            (numbers("x", "y"), [("look", 0)], ("if", "y", (1, ["y", "x"]), (2, ["x"]))),
            (numbers("w"), [], ("return", "w")),
        ]
        code = Code(source, "f", blocks)
        backs = Backs(code, [state_at(code, 0, 0, {"a": ("in", "x")})])
        self.assertEqual(ridden(backs, [0, 3]), (("done", 3), [], None))
        run = CodeRun(backs, [0, 3])
        run.steps(3)
        self.assertEqual(run.registers(), {"p": 0, "q": 3, "x": 3, "y": 0})

    def test_the_first_goal_is_that_of_what_is_not_0(self):
        source = function_source([("return", "a")], numbers("a"))
        code = Code(source, "f", [(numbers("p"), [("number", "one", 1), ("number", "two", 2)], ("if", "p", (1, []), (2, []))), ([], [], ("return", "one")),
                                  ([], [], ("return", "two"))])
        self.assertEqual([ridden(Backs(code, []), [k])[0][1] for k in (-2, -1, 0, 1, 10 ** 70)], [1, 1, 2, 1, 1])

    def test_calls_share_objects_and_log(self):
        source = function_source([("return", "a")], numbers("a"), more=[DOWN, MAKE])
        rows = [("new", "c", "cell"), ("see", "p"), ("call", "r", "down", ["p", "c"]), ("call", "o", "make", []), ("see", "o"), ("new", "q", "box"), ("see", "r")]
        run = CodeRun(Backs(Code(source, "f", [(numbers("p"), rows, ("return", "r"))]), []), [5])
        run.steps(2)
        self.assertTrue(run.step())
        self.assertEqual((run.registers()["r"], run.place()), (4, (0, 3)))
        self.assertEqual(run.log(), [("number", 5), ("object", "cell"), ("number", 4)])
        self.assertTrue(run.step())
        self.assertEqual([run.registers()["o"], run.heap()[1]], [("object", 1), ("cell", {"item": 0, "next": None})])
        self.assertEqual(run.steps(2000), 4)
        self.assertEqual(run.log()[3:], [("object", "cell"), ("number", 4)])
        self.assertEqual((run.registers()["q"], told(run)[:3], run.step()), (("object", 2), [("done", 4), None, None], False))

    def test_what_is_returned_is_new(self):
        run = CodeRun(list_backs(), [2], choice=(4, 1))
        while True:
            before = told(run)
            run.registers().clear()
            run.log().append(1)
            for heap in (run.heap(),):
                for title, fields in heap.values():
                    fields.clear()
                heap.clear()
            for _, _, variables in run.frames():
                variables.clear()
            run.frames().clear()
            self.assertEqual(told(run), before)
            if not run.step():
                break

    def test_what_was_told_stays(self):
        run = CodeRun(list_backs(), [2], choice=(4, 1))
        moments = []
        while True:
            moments.append((told(run), copy.deepcopy(told(run))))
            if not run.step():
                break
        for moment, copied in moments:
            self.assertEqual(moment, copied)

    def test_runs_go_on_by_themselves(self):
        backs = list_backs()
        one, other = CodeRun(backs, [2]), CodeRun(backs, [2])
        one.steps(12)
        self.assertEqual((other.place(), other.heap(), other.log()), ((0, 0), {}, []))


class TestGoingBack(unittest.TestCase):
    def test_guards_go_back_at_0(self):
        source = function_source([("see", "a"), ("return", "a")], numbers("a"))
        code = Code(source, "f", [(numbers("p"), [("guard", "p", 3), ("number", "q", 9)], ("return", "q"))])
        backs = Backs(code, [state_at(code, 3, 0, {"a": ("add", ("in", "p"), ("number", 4))})])
        self.assertEqual(ridden(backs, [0]), (("done", 4), [("number", 4)], (3, 0)))
        self.assertEqual(ridden(backs, [1]), (("done", 9), [], None))
        self.assertEqual(ridden(backs, [-1]), (("done", 9), [], None))
        self.assertEqual(ridden(backs, [1], choice=(3, 0)), (("done", 5), [("number", 5)], (3, 0)))
        self.assertEqual(ridden(backs, [1], choice=(3, 1)), (("done", 9), [], None))
        self.assertEqual(ridden(backs, [0], choice=(3, 1)), (("done", 4), [("number", 4)], (3, 0)))

    def test_step_by_step(self):
        run = CodeRun(list_backs(), [1], choice=(2, 0))
        run.steps(8)
        before = told(run)
        self.assertEqual((before[2], before[6]), ((2, 4), []))
        self.assertTrue(run.step())
        frames = [("f", 6, {"n": 0, "list": ("object", 0), "cell": None}), ("down", 0, {"n": 1, "x": ("object", 0), "one": 0})]
        self.assertEqual(told(run), [None, (2, 0), None, before[3], before[4], before[5], frames])
        self.assertTrue(run.step())
        self.assertEqual(run.frames()[1], ("down", 1, {"n": 1, "x": ("object", 0), "one": 1}))
        run.step()
        self.assertEqual(run.log(), [("object", "cell")])
        self.assertEqual(run.registers(), before[3])
        run.steps(2000)
        self.assertEqual(told(run)[:3], [("done", ("object", 0)), (2, 0), None])
        self.assertEqual([run.frames(), run.step(), run.steps(5)], [[], False, 0])

    def test_unmade_objects_are_made(self):
        run = CodeRun(list_backs(), [2], choice=(1, 1))
        while run.went_back() is None:
            run.step()
        self.assertEqual(run.heap(), {0: ("cell", {"item": 2, "next": None}), 1: ("cell", {"item": 1, "next": ("object", 0)})})
        self.assertEqual(run.frames(), [("f", 4, {"n": 1, "list": ("object", 0), "cell": ("object", 1)})])

    def test_new_objects_behind_a_way_back(self):
        run = CodeRun(list_backs(), [3], choice=(1, 1))
        rode(run)
        self.assertEqual(sorted(run.heap()), [0, 1, 2])
        self.assertEqual(run.ended(), ("done", ("object", 2)))

    def test_log_and_objects_go_on(self):
        source = list_backs().code.source
        for n in range(4):
            expected = outcome(source, "f", [n])
            for point in range(7):
                for visit in range(n + 2):
                    result, log, back = ridden(list_backs(), [n], choice=(point, visit))
                    self.assertEqual((result, log), expected)
                    met = {0: n + 1, 5: 1, 6: 1}.get(point, n)
                    self.assertEqual(back, (point, visit) if visit < met else None)

    def test_visits_are_counted_for_each_point(self):
        backs = list_backs()
        run = CodeRun(backs, [3], choice=(4, 2))
        rode(run)
        self.assertEqual(run.went_back(), (4, 2))
        self.assertEqual(run.registers()["m"], 1)
        self.assertEqual(ridden(backs, [3], choice=(4, 3))[2], None)
        self.assertEqual(ridden(backs, [3], choice=(4, 10 ** 30))[2], None)

    def test_numbers_that_are_too_great(self):
        source = function_source([("see", "a"), ("return", "a")], numbers("a"))
        code = Code(source, "f", [(numbers("p"), [("see", "p"), ("look", 3), ("see", "p")], ("return", "p"))])
        backs = Backs(code, [state_at(code, 3, 0, {"a": ("add", ("in", "p"), ("number", 1))})])
        self.assertEqual(ridden(backs, [MOST - 1], choice=(3, 0)), (("done", MOST), [("number", MOST - 1), ("number", MOST)], (3, 0)))
        run = CodeRun(backs, [MOST], choice=(3, 0))
        run.step()
        before = told(run)
        for ask in (run.step, lambda: run.steps(3), lambda: rode(run), run.step):
            with self.assertRaises(LimitExceeded) as caught:
                ask()
            self.assertEqual(caught.exception.limit, MOST)
            self.assertEqual(told(run), before)


class TestFailures(unittest.TestCase):
    def numbers_backs(self, rows, more=(), end="r", own_rows=(("return", "a"),)):
        source = function_source(own_rows, numbers("a"), more=more)
        code = Code(source, "f", [(numbers("p"), rows, ("return", end))])
        return Backs(code, [state_at(code, point, 0, {"a": ("in", "p")}) for point in code.points()])

    def test_rows_whose_number_is_too_great(self):
        for word, one, limit in (("add", MOST // 2, 1), ("times", 10 ** 30, 1), ("sub", 0, 0)):
            backs = self.numbers_backs([("number", "s", 0), (word, "r", "p", "p")])
            self.assertEqual(ridden(backs, [one])[0], ("done", MOST if limit else 0))
            run = CodeRun(backs, [one + 1 if limit else -MOST - 1])
            if not limit:
                self.assertEqual(rode(run)[0], ("done", 0))
                continue
            run.step()
            before = told(run)
            with self.assertRaises(LimitExceeded) as caught:
                run.step()
            self.assertEqual((caught.exception.limit, told(run)), (MOST, before))

    def test_steps_that_were_done_stay_done(self):
        run = CodeRun(self.numbers_backs([("see", "p"), ("add", "s", "p", "p"), ("times", "r", "s", "s"), ("see", "r")]), [10 ** 30])
        with self.assertRaises(LimitExceeded):
            run.steps(100)
        self.assertEqual((run.place(), run.log(), run.registers()), ((0, 2), [("number", 10 ** 30)], {"p": 10 ** 30, "s": 2 * 10 ** 30}))

    BUSY = [
        ("see", "n"), ("get", "c", "o", "next"), ("put", "o", "item", "n"), ("put", "o", "item", "m"), ("put", "o", "next", "o"), ("new", "c", "cell"),
        ("put", "o", "next", "c"), ("put", "c", "item", "n"), ("see", "c"), ("new", "c", "cell"), ("times", "m", "n", "n"), ("return", "m"),
    ]

    def busy_backs(self, rows=None):
        """Code that makes an object and calls a function that changes it and may fail at its end."""
        busy = ("busy", [("n", "number"), ("o", "object")], [("m", "number"), ("c", "object")], "number", rows or self.BUSY)
        return self.numbers_backs([("new", "o", "cell"), ("put", "o", "item", "p"), ("see", "o"), ("call", "r", "busy", ["p", "o"]), ("new", "q", "cell")], [busy])

    def test_a_call_that_fails_changes_nothing(self):
        run = CodeRun(self.busy_backs(), [10 ** 31])
        run.steps(3)
        before = told(run)
        for _ in range(3):
            with self.assertRaises(LimitExceeded) as caught:
                run.step()
            self.assertEqual((caught.exception.limit, told(run)), (MOST, before))

    def test_a_call_that_does_not_fail(self):
        run = CodeRun(self.busy_backs(), [7])
        run.steps(4)
        self.assertEqual(run.heap(), {0: ("cell", {"item": 0, "next": ("object", 1)}), 1: ("cell", {"item": 7, "next": None}),
                                      2: ("cell", {"item": 0, "next": None})})
        self.assertEqual((run.log(), run.registers()["r"]), ([("object", "cell"), ("number", 7), ("object", "cell")], 49))
        run.step()
        self.assertEqual(run.registers()["q"], ("object", 3))

    def test_frames_of_a_call(self):
        deep = ("busy", [("n", "number"), ("o", "object")], numbers("one", "r"), "number",
                [("see", "n"), ("put", "o", "item", "n"), ("if", "n", 6), ("number", "one", 1), ("sub", "n", "n", "one"), ("call", "r", "busy", ["n", "o"]),
                 ("return", "n")])
        rows = [("new", "o", "cell"), ("put", "o", "item", "p"), ("see", "o"), ("call", "r", "busy", ["p", "o"])]
        for many, fits in ((49, True), (50, False)):
            run = CodeRun(self.numbers_backs(rows, [deep]), [many])
            run.steps(3)
            before = told(run)
            if fits:
                run.step()
                self.assertEqual(len(run.log()), 51)
                continue
            with self.assertRaises(LimitExceeded) as caught:
                run.step()
            self.assertEqual((caught.exception.limit, told(run)), (50, before))

    def count(self, more, name="count"):
        """A function that does 3 n + 3 + more rows for n."""
        rows = [("number", "one", 1), *[("see", "n")] * more]
        rows += [("if", "n", len(rows) + 3), ("sub", "n", "n", "one"), ("jump", len(rows)), ("return", "n")]
        return (name, numbers("n"), numbers("one"), "number", rows)

    def test_two_thousand_rows_of_a_call(self):
        for more, fits in ((2, True), (3, False)):
            backs = self.numbers_backs([("call", "r", "count", ["p"]), ("call", "s", "count", ["p"])], [self.count(more)])
            if fits:
                self.assertEqual(ridden(backs, [665])[0], ("done", 0))
                self.assertEqual(CodeRun(backs, [665]).steps(2000), 3)
                continue
            run = CodeRun(backs, [665])
            before = told(run)
            for ask in (run.step, lambda: run.steps(2000), lambda: rode(run), lambda: ridden(backs, [665])):
                with self.assertRaises(LimitExceeded) as caught:
                    ask()
                self.assertEqual((caught.exception.limit, told(run)), (2000, before))

    def test_two_thousand_rows_behind_a_way_back(self):
        for more, fits in ((2, True), (3, False)):
            name, _, others, kind, rows = self.count(more)
            rows = [tuple("a" if part == "n" else part for part in row) for row in rows]
            source = function_source(rows, numbers("a"), others)
            code = Code(source, "f", [(numbers("p"), [("see", "p"), ("look", 0)], ("return", "p"))])
            backs = Backs(code, [state_at(code, 0, 0, {"a": ("in", "p")})])
            if fits:
                self.assertEqual(ridden(backs, [665], choice=(0, 0))[::2], (("done", 0), (0, 0)))
                continue
            with self.assertRaises(LimitExceeded) as caught:
                ridden(backs, [665], choice=(0, 0))
            self.assertEqual(caught.exception.limit, 2000)
            run = CodeRun(backs, [665], choice=(0, 0))
            with self.assertRaises(LimitExceeded):
                rode(run)
            self.assertEqual((run.ended(), run.frames()[0][1], run.step(), run.ended()), (None, len(rows) - 1, True, ("done", 0)))
            self.assertEqual(rode(run)[0], ("done", 0))

    def loop_backs(self, more):
        """Code that does 4 n + 5 + more rows and ends for n: the last one is its return."""
        source = function_source([("return", "a")], numbers("a"))
        blocks = [
            (numbers("p"), [("number", "one", 1), *[("see", "p")] * more], ("go", 1, ["p"])),
            (numbers("x"), [("look", 0)], ("if", "x", (2, []), (3, []))),
            ([], [("sub", "y", "x", "one")], ("go", 1, ["y"])),
            ([], [], ("return", "x")),
        ]
        code = Code(source, "f", blocks)
        return Backs(code, [state_at(code, 0, 0, {"a": ("in", "x")})])

    def test_two_thousand_rows_of_code(self):
        run = CodeRun(self.loop_backs(3), [498])
        self.assertEqual((run.steps(2000), run.ended(), run.step()), (2000, ("done", 0), False))
        self.assertEqual(ridden(self.loop_backs(3), [498]), (("done", 0), [("number", 498)] * 3, None))
        for more in (4, 5):
            with self.assertRaises(LimitExceeded) as caught:
                ridden(self.loop_backs(more), [498])
            self.assertEqual(caught.exception.limit, 2000)

    def test_rows_that_were_done_are_counted(self):
        run = CodeRun(self.loop_backs(3), [498])
        run.steps(1500)
        self.assertEqual(rode(run)[0], ("done", 0))
        run = CodeRun(self.loop_backs(4), [498])
        run.steps(1500)
        with self.assertRaises(LimitExceeded):
            rode(run)
        self.assertEqual((run.place(), run.ended()), ((3, 0), None))
        with self.assertRaises(LimitExceeded):
            rode(run)
        self.assertEqual((run.step(), rode(run)[0]), (True, ("done", 0)))

    def test_a_way_back_counts_as_a_row_of_code(self):
        # 4 n + 2 + more rows lead to visit n of the point, which is the row behind them.
        for more, fits in ((5, True), (6, False)):
            backs = self.loop_backs(more)
            if fits:
                self.assertEqual(ridden(backs, [498], choice=(0, 498))[2], (0, 498))
            else:
                with self.assertRaises(LimitExceeded):
                    ridden(backs, [498], choice=(0, 498))

    def test_rows_behind_a_way_back_are_counted_by_themselves(self):
        name, _, others, kind, rows = self.count(2)
        rows = [tuple("a" if part == "n" else part for part in row) for row in rows]
        source = function_source(rows, numbers("a"), others)
        code = Code(source, "f", self.loop_backs(4).code.blocks())
        backs = Backs(code, [state_at(code, 0, 0, {"a": ("in", "p")})])
        self.assertEqual(ridden(backs, [665], choice=(0, 498))[0], ("done", 0))

    def test_wrong_numbers_of_steps(self):
        for thing in [*odd_things(), -1, 2001, "1", [1]]:
            run = CodeRun(list_backs(), [1])
            with self.assertRaises(InvalidNumber) as caught:
                run.steps(thing)
            self.assertIs(caught.exception.number, thing)
            self.assertEqual(run.place(), (0, 0))
        self.assertEqual([CodeRun(list_backs(), [1]).steps(many) for many in (0, 1, 2000)], [0, 1, 22])


class TestRunFrom(unittest.TestCase):
    def test_it_goes_on_behind_the_point(self):
        backs = list_backs()
        run = run_from(backs, 3, {"m": 1, "one": 1, "c": ("object", 4)}, {4: ("cell", {"item": 8, "next": None})})
        self.assertIs(run.backs, backs)
        registers = {"a": 0, "z": None, "m": 1, "l": None, "c": ("object", 4), "one": 1, "d": 0}
        self.assertEqual(told(run), [None, None, (2, 8), registers, {4: ("cell", {"item": 8, "next": None})}, [], []])
        self.assertEqual(rode(run), (("done", ("object", 4)), [("number", 0), ("object", "cell")], None))

    def test_new_objects_stand_behind_the_greatest(self):
        run = run_from(list_backs(), 0, {"m": 1}, {9: ("box", {"item": 0}), 2: ("box", {"item": 0})})
        self.assertEqual(rode(run)[0], ("done", ("object", 10)))
        self.assertEqual(sorted(run.heap()), [2, 9, 10])

    def test_no_point_has_been_visited(self):
        backs = list_backs()
        run = run_from(backs, 0, {"m": 3}, {}, choice=(0, 0))
        self.assertEqual(rode(run)[2], (0, 0))
        self.assertEqual(run.registers()["m"], 2)
        self.assertEqual(rode(run_from(backs, 0, {"m": 3}, {}, choice=(0, 3)))[2], None)
        self.assertEqual(rode(run_from(backs, 1, {"m": 3}, {}, choice=(1, 1)))[2], (1, 1))

    def test_a_guard_has_been_passed(self):
        run = run_from(list_backs(), 1, {}, {})
        self.assertEqual((run.place(), run.registers()["m"]), ((2, 1), 0))
        self.assertEqual(run.step(), True)

    def test_as_if_a_run_had_passed_the_point(self):
        backs = list_backs()
        for n in range(4):
            run = CodeRun(backs, [n])
            while True:
                place = run.place()
                row = backs.code.blocks()[place[0]][1][place[1]:][:1] if place else []
                before = len(run.log())
                if not run.step():
                    break
                if row and row[0][0] in ("guard", "look"):
                    other = run_from(backs, row[0][-1], run.registers(), run.heap())
                    self.assertEqual(other.place(), run.place())
                    result, log, back = rode(other)
                    self.assertEqual((result, back), (ridden(backs, [n])[0], None))
                    self.assertEqual(ridden(backs, [n])[1], run.log() + log)
                    self.assertEqual(len(run.log()), before)

    def test_numbers_of_any_size(self):
        run = run_from(list_backs(), 5, {"m": 10 ** 100, "a": -(10 ** 100)}, {0: ("box", {"item": 10 ** 100})})
        self.assertEqual((run.registers()["m"], run.heap()[0][1]["item"]), (10 ** 100, 10 ** 100))

    def test_nothing_is_kept(self):
        registers, heap = {"m": 1, "c": ("object", 4)}, {4: ("cell", {"item": 8, "next": None})}
        run = run_from(list_backs(), 3, registers, heap)
        registers["m"] = 5
        heap[4][1]["item"] = 9
        heap[5] = heap[4]
        self.assertEqual((run.registers()["m"], run.heap()), (1, {4: ("cell", {"item": 8, "next": None})}))
        run.steps(2000)
        self.assertEqual((registers, heap[4]), ({"m": 5, "c": ("object", 4)}, ("cell", {"item": 9, "next": None})))

    def raised(self, error, part, *arguments, choice=0):
        with self.assertRaises(error) as caught:
            run_from(list_backs(), *arguments, choice=choice)
        self.assertEqual(caught.exception.part, part)

    def test_no_point(self):
        for thing in [*odd_things(), 7, -1, "0", [0]]:
            with self.assertRaises(InvalidNumber) as caught:
                run_from(list_backs(), thing, None, None, choice=0)
            self.assertIs(caught.exception.number, thing)

    def test_wrong_registers(self):
        wrong = [{"m": None}, {"m": True}, {"m": 1.0}, {"m": "1"}, {"m": ("object", 0)}, {"l": 0}, {"l": ("object", -1)}, {"l": ("object", True)}, {"l": ()},
                 {"zz": 1}, {1: 1}, {None: None}, {("m",): 1}, {"m": 1, "y": 1}, [], [("m", 1)], None, "m", 1, (), {"m"}]
        for registers in [*wrong, *odd_things()]:
            self.raised(InvalidArgument, "registers", 0, registers, None)
        for thing in odd_things():
            for name in ("m", "l"):
                if not (name == "m" and isinstance(thing, int) and not isinstance(thing, bool)) and not (name == "l" and thing is None):
                    self.raised(InvalidArgument, "registers", 0, {name: thing}, None)

    HEAP = {0: ("cell", {"item": 1, "next": ("object", 3)}), 3: ("box", {"item": 2})}

    def test_wrong_heaps(self):
        lost = {"l": ("object", 7)}
        for heap in ([], None, {0: None}, {-1: ("box", {"item": 1})}, {True: ("box", {"item": 1})}, {0: ("box", {})}, {0: ("none", {})}, {0: ("box", {"item": None})},
                     {0: ["box", {"item": 1}]}, {"0": ("box", {"item": 1})}, *[thing for thing in odd_things() if thing != {}]):
            self.raised(InvalidState, "heap", 0, lost, heap)
        self.raised(InvalidState, "heap", 0, lost, {1: ("cell", {"item": 0, "next": ("object", 2)}), 2: ("cell", {})})
        self.raised(InvalidState, "objects", 0, lost, {1: ("cell", {"item": 0, "next": ("object", 2)})})
        self.raised(InvalidArgument, "registers", 0, lost, self.HEAP)
        self.raised(InvalidArgument, "registers", 0, {"m": 1, "l": ("object", 1)}, self.HEAP)
        self.raised(InvalidArgument, "choice", 0, {"m": 1, "l": ("object", 3)}, self.HEAP)
        self.raised(InvalidArgument, "choice", 0, {"m": 1, "l": ("object", 3)}, self.HEAP, choice=(7, 0))
        run_from(list_backs(), 0, {"m": 1, "l": ("object", 3)}, self.HEAP, choice=(6, 0))

    def test_anything_in_the_place_of_any_part_of_a_heap(self):
        for thing in odd_things():
            for path in ((0,), (0, 0), (0, 1), (0, 1, "next"), (3, 1, "item")):
                heap = with_part(self.HEAP, path, thing)
                try:
                    run_from(list_backs(), 0, {}, heap)
                except InvalidState as caught:
                    self.assertIn(caught.part, ("heap", "objects"))


class TestRandom(unittest.TestCase):
    def test_against_a_plainer_way(self):
        chance = random.Random(31)
        back = ended = failed = 0
        for _ in range(700):
            backs = wild_backs(chance)
            points = backs.code.points()
            choice = (chance.choice(points), chance.randint(0, 2)) if points and chance.random() < 0.6 else None
            arguments = [chance.randint(-3, 3), None]
            run, model = CodeRun(backs, arguments, choice=choice), Model(backs, arguments, choice)
            for _ in range(150):
                try:
                    stepped = model.step()
                except LimitExceeded as caught:
                    failed += 1
                    before = told(run)
                    with self.assertRaises(LimitExceeded) as again:
                        run.step()
                    self.assertEqual((again.exception.limit, told(run)), (caught.limit, before))
                    break
                self.assertIs(run.step(), stepped)
                self.assertEqual(told(run), model.told())
                if not stepped:
                    break
            back += run.went_back() is not None
            ended += run.ended() is not None
        self.assertGreater(back, 150)
        self.assertGreater(ended, 300)

    def test_whole_runs(self):
        chance = random.Random(34)
        done = 0
        for _ in range(300):
            backs = wild_backs(chance)
            points = backs.code.points()
            choice = (chance.choice(points), chance.randint(0, 2)) if points and chance.random() < 0.6 else None
            arguments = [chance.randint(-3, 3), None]
            run = CodeRun(backs, arguments, choice=choice)
            try:
                whole = ridden(backs, arguments, choice=choice)
            except LimitExceeded as caught:
                with self.assertRaises(LimitExceeded) as again:
                    rode(run)
                self.assertEqual(again.exception.limit, caught.limit)
                continue
            done += 1
            while run.step():
                self.assertIsNone(run.ended() if run.place() else None)
            self.assertEqual(whole, (run.ended(), run.log(), run.went_back()))
            self.assertEqual(rode(run), whole)
        self.assertGreater(done, 150)


if __name__ == "__main__":
    unittest.main()
