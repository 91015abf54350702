import copy
import unittest

from backframes.errors import InvalidArgument, InvalidNumber, InvalidSource, InvalidState, LimitExceeded
from backframes.machine import Machine, State, finished, going_on, outcome
from backframes.source import Source
from tests.samples import (
    ALL_ROWS, BOX, CELL, EMPTY, MAKE, all_source, function_source, numbers, objects, odd_things, paths_in, with_part,
)

MOST = 10 ** 60
BACK = ("return", "a")

# f goes on adding 1 to a until it is 0.
LOOP = [("number", "one", 1), ("if", "a", 4), ("sub", "a", "a", "one"), ("jump", 1), ("return", "a")]
# f(n) calls itself with n - 1 until n is 0, and then returns n each time.
DEEP = [("if", "n", 4), ("number", "m", 1), ("sub", "m", "n", "m"), ("call", "m", "f", ["m"]), ("return", "n")]


def loop_source():
    return function_source(LOOP, numbers("a"), numbers("one"))


def deep_source():
    return function_source(DEEP, numbers("n"), numbers("m"))


def run(rows, arguments=(), params=(), others=(), kind="number", more=()):
    return outcome(function_source(rows, params, others, kind, more), "f", list(arguments))


class TestMaking(unittest.TestCase):
    def test_it_begins_ahead_of_row_0(self):
        machine = Machine(all_source(), "all", [7, None])
        self.assertEqual(machine.frames(), [("all", 0, {"n": 7, "o": None, "m": 0, "p": None})])
        self.assertEqual((machine.heap(), machine.log(), machine.rows(), machine.ended()), ({}, [], 0, None))

    def test_numbers_of_any_size(self):
        for number in (0, -1, 10 ** 9 + 1, MOST, MOST + 1, -(10 ** 5000)):
            self.assertEqual(run([BACK], [number], numbers("a")), (("done", number), []))

    def test_arguments_by_name(self):
        machine = Machine(arguments=[1], name="f", source=loop_source())
        self.assertEqual(machine.frames()[0][2]["a"], 1)
        self.assertEqual(outcome(arguments=[1], name="f", source=loop_source()), (("done", 0), []))
        self.assertEqual(machine.steps(many=2), 2)

    def test_no_source(self):
        for make in (Machine, outcome):
            for thing in odd_things():
                if not isinstance(thing, Source):
                    with self.assertRaises(InvalidSource) as caught:
                        make(thing, None, None)
                    self.assertEqual((caught.exception.part, caught.exception.at), ("source", None))

    def test_no_name(self):
        for make in (Machine, outcome):
            for thing in [*odd_things(), "g", "a", ["f"]]:
                with self.assertRaises(InvalidArgument) as caught:
                    make(loop_source(), thing, None)
                self.assertEqual(caught.exception.part, "name")

    def test_wrong_arguments(self):
        source = function_source([BACK], numbers("a") + objects("b"))
        wrong = [[], [1], [1, None, None], (1, None), [None, None], [1, 1], [1, ("object", 0)], [True, None],
                 [1.0, None], ["1", None], [1, False], [1, []], {1: None}]
        for make in (Machine, outcome):
            for arguments in [*wrong, *odd_things()]:
                with self.assertRaises(InvalidArgument) as caught:
                    make(source, "f", arguments)
                self.assertEqual(caught.exception.part, "arguments")
            make(source, "f", [1, None])
        for thing in odd_things():
            if thing is not None:
                with self.assertRaises(InvalidArgument):
                    Machine(source, "f", [1, thing])

    def test_arguments_are_not_kept(self):
        arguments = [7]
        machine = Machine(loop_source(), "f", arguments)
        arguments[0] = 8
        self.assertEqual(machine.frames()[0][2]["a"], 7)
        machine.steps(3)
        self.assertEqual(arguments, [8])


class TestRows(unittest.TestCase):
    def number_of(self, row, *arguments):
        result, _ = run([row, ("return", "r")], arguments, numbers("a", "b")[:len(arguments)], numbers("r"))
        return result[1]

    def test_numbers(self):
        self.assertEqual(self.number_of(("number", "r", -7)), -7)
        self.assertEqual(self.number_of(("copy", "r", "a"), 5), 5)
        for one, other in ((3, 4), (4, 3), (3, 3), (-3, 0), (0, -3), (-3, -4)):
            self.assertEqual(self.number_of(("add", "r", "a", "b"), one, other), one + other)
            self.assertEqual(self.number_of(("sub", "r", "a", "b"), one, other), one - other)
            self.assertEqual(self.number_of(("times", "r", "a", "b"), one, other), one * other)
            self.assertEqual(self.number_of(("less", "r", "a", "b"), one, other), int(one < other))
            self.assertEqual(self.number_of(("same", "r", "a", "b"), one, other), int(one == other))
        self.assertIs(type(self.number_of(("less", "r", "a", "b"), 1, 2)), int)
        self.assertIs(type(self.number_of(("same", "r", "a", "b"), 1, 1)), int)

    def test_variables_are_0_or_nil_at_first(self):
        self.assertEqual(run([("return", "r")], others=numbers("r")), (("done", 0), []))
        self.assertEqual(run([("return", "r")], others=objects("r"), kind="object"), (("done", None), []))

    def test_the_same_of_objects(self):
        rows = [("new", "p", "cell"), ("new", "q", "cell"), ("copy", "r", "p")]
        for one, other, told in (("p", "q", 0), ("p", "p", 1), ("p", "r", 1), ("p", "s", 0), ("s", "p", 0), ("s", "t", 1)):
            made = run([*rows, ("same", "n", one, other), ("return", "n")], (), (), objects("p", "q", "r", "s", "t") + numbers("n"))
            self.assertEqual(made, (("done", told), []))

    def test_nil_takes_an_object_away(self):
        rows = [("new", "p", "cell"), ("nil", "p"), ("return", "p")]
        self.assertEqual(run(rows, (), (), objects("p"), "object"), (("done", None), []))

    def test_objects_are_numbered_as_they_are_made(self):
        rows = [("new", "p", "box"), ("new", "q", "empty"), ("new", "p", "cell"), ("return", "p")]
        machine = Machine(function_source(rows, (), objects("p", "q"), "object"), "f", [])
        self.assertEqual(finished(machine), (("done", ("object", 2)), []))
        heap = {0: ("box", {"item": 0}), 1: ("empty", {}), 2: ("cell", {"item": 0, "next": None})}
        self.assertEqual(machine.heap(), heap)

    def test_fields(self):
        rows = [
            ("new", "p", "cell"), ("number", "n", 4), ("put", "p", "item", "n"), ("put", "p", "next", "p"),
            ("get", "q", "p", "next"), ("get", "m", "q", "item"), ("return", "m"),
        ]
        machine = Machine(function_source(rows, (), objects("p", "q") + numbers("n", "m")), "f", [])
        self.assertEqual(finished(machine), (("done", 4), []))
        self.assertEqual(machine.heap(), {0: ("cell", {"item": 4, "next": ("object", 0)})})

    def test_fields_of_two_objects_are_their_own(self):
        rows = [
            ("new", "p", "cell"), ("new", "q", "cell"), ("number", "n", 4), ("put", "p", "item", "n"),
            ("get", "m", "q", "item"), ("return", "m"),
        ]
        self.assertEqual(run(rows, (), (), objects("p", "q") + numbers("n", "m"))[0], ("done", 0))

    def test_fields_of_nil_and_of_other_classes(self):
        for make in (("nil", "p"), ("new", "p", "empty"), ("new", "p", "box")):
            rows = [
                make, ("number", "n", 4), ("number", "m", 9), ("new", "q", "cell"), ("put", "p", "next", "q"),
                ("get", "q", "p", "next"), ("see", "q"),
            ]
            if make != ("new", "p", "box"):
                rows += [("put", "p", "item", "n"), ("get", "m", "p", "item"), ("see", "m")]
            source = function_source([*rows, ("return", "m")], (), objects("p", "q") + numbers("n", "m"))
            machine = Machine(source, "f", [])
            log = [("nil",), ("number", 0)] if make != ("new", "p", "box") else [("nil",)]
            self.assertEqual(finished(machine)[1], log)
            first = {"item": 0} if make[-1] == "box" else {}
            cell = ("cell", {"item": 0, "next": None})
            heap = {0: cell} if make[0] == "nil" else {0: (make[2], first), 1: cell}
            self.assertEqual(machine.heap(), heap)

    def test_see(self):
        rows = [("see", "a"), ("see", "p"), ("new", "p", "box"), ("see", "p"), ("see", "a"), BACK]
        log = [("number", -3), ("nil",), ("object", "box"), ("number", -3)]
        self.assertEqual(run(rows, [-3], numbers("a"), objects("p")), (("done", -3), log))

    def test_if_and_jump(self):
        rows = [("if", "a", 3), ("number", "r", 1), ("jump", 4), ("number", "r", 2), ("return", "r")]
        for number, told in ((0, 2), (1, 1), (-1, 1), (10 ** 70, 1)):
            self.assertEqual(run(rows, [number], numbers("a"), numbers("r"))[0], ("done", told))

    def test_if_goes_on_to_the_next_row(self):
        machine = Machine(function_source([("if", "a", 2), ("see", "a"), BACK], numbers("a")), "f", [5])
        machine.step()
        self.assertEqual(machine.frames(), [("f", 1, {"a": 5})])

    def test_loops(self):
        self.assertEqual(outcome(loop_source(), "f", [5]), (("done", 0), []))

    def test_a_list_of_objects_that_is_gone_through(self):
        rows = [
            ("number", "one", 1), ("if", "n", 8), ("new", "c", "cell"), ("put", "c", "item", "n"),
            ("put", "c", "next", "top"), ("copy", "top", "c"), ("sub", "n", "n", "one"), ("jump", 1),
            ("nil", "c"), ("same", "one", "top", "c"), ("if", "one", 12), ("return", "n"),
            ("get", "m", "top", "item"), ("add", "n", "n", "m"), ("see", "m"), ("get", "top", "top", "next"), ("jump", 9),
        ]
        made = run(rows, [4], numbers("n"), numbers("one", "m") + objects("c", "top"))
        self.assertEqual(made, (("done", 10), [("number", k) for k in (1, 2, 3, 4)]))


class TestSteps(unittest.TestCase):
    def test_step_by_step(self):
        machine = Machine(loop_source(), "f", [1])
        rows = []
        while machine.ended() is None:
            rows.append(machine.frames()[0][1])
            self.assertIs(machine.step(), True)
            self.assertEqual(machine.rows(), len(rows))
        self.assertEqual(rows, [0, 1, 2, 3, 1, 4])
        self.assertIs(machine.step(), False)
        self.assertEqual((machine.rows(), machine.ended(), machine.frames()), (6, ("done", 0), []))

    def test_steps(self):
        machine = Machine(loop_source(), "f", [3])
        self.assertEqual([machine.steps(0), machine.rows()], [0, 0])
        self.assertEqual([machine.steps(5), machine.rows()], [5, 5])
        self.assertEqual(machine.frames(), [("f", 2, {"a": 2, "one": 1})])
        self.assertEqual([machine.steps(2000), machine.steps(2000), machine.steps(0)], [7, 0, 0])
        self.assertEqual((machine.rows(), machine.ended()), (12, ("done", 0)))

    def test_steps_do_not_go_too_far(self):
        machine = Machine(function_source([("jump", 0)]), "f", [])
        self.assertEqual([machine.steps(2000), machine.steps(1999), machine.rows()], [2000, 1999, 3999])

    def test_wrong_numbers_of_steps(self):
        machine = Machine(loop_source(), "f", [3])
        machine.steps(1)
        for many in [-1, 2001, *odd_things()]:
            with self.assertRaises(InvalidNumber) as caught:
                machine.steps(many)
            self.assertIs(caught.exception.number, many)
        self.assertEqual(machine.rows(), 1)

    def test_what_is_returned_is_new(self):
        machine = Machine(all_source(), "make", [])
        machine.step()
        machine.frames()[0][2]["c"] = None
        machine.frames().clear()
        machine.heap()[0][1]["item"] = 5
        machine.heap().clear()
        machine.log().append(1)
        self.assertEqual(machine.frames(), [("make", 1, {"c": ("object", 0)})])
        self.assertEqual(machine.heap(), {0: ("cell", {"item": 0, "next": None})})
        self.assertEqual(machine.log(), [])

    def test_what_was_told_stays(self):
        machine = Machine(loop_source(), "f", [2])
        told = machine.frames()
        machine.steps(3)
        self.assertEqual(told, [("f", 0, {"a": 2, "one": 0})])

    def test_machines_go_on_by_themselves(self):
        source = loop_source()
        one, other = Machine(source, "f", [2]), Machine(source, "f", [2])
        one.steps(5)
        self.assertEqual(other.frames(), [("f", 0, {"a": 2, "one": 0})])


class TestCalls(unittest.TestCase):
    def test_frames_of_a_call(self):
        call = [("number", "b", 3), ("call", "c", "g", ["b", "a"]), ("return", "c")]
        g = ("g", numbers("x", "y"), numbers("z") + objects("o"), "number", [("sub", "z", "x", "y"), ("return", "z")])
        machine = Machine(function_source(call, numbers("a"), numbers("b", "c"), more=[g]), "f", [10])
        machine.steps(2)
        waiting = ("f", 1, {"a": 10, "b": 3, "c": 0})
        self.assertEqual(machine.frames(), [waiting, ("g", 0, {"x": 3, "y": 10, "z": 0, "o": None})])
        machine.step()
        self.assertEqual(machine.frames(), [waiting, ("g", 1, {"x": 3, "y": 10, "z": -7, "o": None})])
        machine.step()
        self.assertEqual(machine.frames(), [("f", 2, {"a": 10, "b": 3, "c": -7})])
        self.assertEqual((machine.ended(), machine.rows()), (None, 4))
        machine.step()
        self.assertEqual((machine.ended(), machine.rows()), (("done", -7), 5))

    def test_calls_share_objects_and_log(self):
        call = [("call", "a", "make", []), ("see", "a"), ("call", "b", "make", []), ("put", "a", "next", "b"), BACK]
        source = function_source(call, (), objects("a", "b"), "object", [MAKE])
        machine = Machine(source, "f", [])
        self.assertEqual(finished(machine), (("done", ("object", 0)), [("object", "cell")]))
        self.assertEqual(machine.heap()[0], ("cell", {"item": 0, "next": ("object", 1)}))

    def test_a_call_may_set_its_own_argument(self):
        rows = [("if", "a", 3), ("sub", "a", "a", "b"), ("call", "a", "f", ["a", "b"]), ("return", "b")]
        self.assertEqual(run(rows, [3, 1], numbers("a", "b"))[0], ("done", 1))

    def test_calls_that_call_themselves(self):
        rows = [
            ("if", "n", 5), ("number", "m", 1), ("sub", "m", "n", "m"), ("call", "m", "f", ["m"]), ("jump", 6),
            ("number", "n", 1), ("see", "n"), ("if", "m", 9), ("times", "n", "n", "m"), ("return", "n"),
        ]
        result, log = run(rows, [5], numbers("n"), numbers("m"))
        self.assertEqual((result, log), (("done", 120), [("number", k) for k in (1, 1, 2, 3, 4, 5)]))

    def test_fifty_frames(self):
        machine = Machine(deep_source(), "f", [49])
        self.assertEqual(machine.steps(49 * 4), 49 * 4)
        self.assertEqual(len(machine.frames()), 50)
        self.assertEqual(finished(machine), (("done", 49), []))
        self.assertEqual(outcome(deep_source(), "f", [48])[0], ("done", 48))

    def test_more_than_fifty_frames(self):
        machine = Machine(deep_source(), "f", [50])
        with self.assertRaises(LimitExceeded) as caught:
            machine.steps(2000)
        self.assertEqual(caught.exception.limit, 50)
        told = (machine.frames(), machine.heap(), machine.log(), machine.rows(), machine.ended())
        self.assertEqual((len(told[0]), told[0][-1], told[3]), (50, ("f", 3, {"n": 1, "m": 0}), 49 * 4 + 3))
        for go in (machine.step, lambda: machine.steps(1), lambda: finished(machine)):
            with self.assertRaises(LimitExceeded) as caught:
                go()
            self.assertEqual(caught.exception.limit, 50)
        self.assertEqual((machine.frames(), machine.heap(), machine.log(), machine.rows(), machine.ended()), told)
        with self.assertRaises(LimitExceeded) as caught:
            outcome(deep_source(), "f", [50])
        self.assertEqual(caught.exception.limit, 50)


class TestGreatNumbers(unittest.TestCase):
    def of(self, word, one, other):
        source = function_source([("see", "a"), (word, "a", "a", "b"), BACK], numbers("a", "b"))
        return Machine(source, "f", [one, other])

    def test_up_to_the_limit(self):
        for word, one, other, told in (
            ("add", MOST - 1, 1, MOST), ("add", 1 - MOST, -1, -MOST), ("sub", MOST - 1, -1, MOST),
            ("sub", 1 - MOST, 1, -MOST), ("times", 10 ** 30, 10 ** 30, MOST), ("times", -(10 ** 30), 10 ** 30, -MOST),
            ("add", MOST + 5, -5, MOST), ("sub", MOST + 5, MOST + 4, 1), ("times", 10 ** 70, 0, 0),
            ("less", 10 ** 70, 10 ** 71, 1), ("same", 10 ** 70, 10 ** 70, 1),
        ):
            self.assertEqual(finished(self.of(word, one, other))[0], ("done", told))

    def test_beyond_the_limit(self):
        for word, one, other in (
            ("add", MOST, 1), ("add", -MOST, -1), ("sub", MOST, -1), ("sub", -MOST, 1), ("times", 10 ** 30, 10 ** 30 + 1),
            ("times", 10 ** 30, -(10 ** 30) - 1), ("times", MOST + 1, 1), ("add", MOST + 1, 0),
        ):
            machine = self.of(word, one, other)
            with self.assertRaises(LimitExceeded) as caught:
                machine.steps(3)
            self.assertEqual(caught.exception.limit, MOST)
            self.assertEqual((machine.rows(), machine.log()), (1, [("number", one)]))
            self.assertEqual(machine.frames(), [("f", 1, {"a": one, "b": other})])
            with self.assertRaises(LimitExceeded):
                machine.step()
            with self.assertRaises(LimitExceeded) as caught:
                finished(machine)
            self.assertEqual((caught.exception.limit, machine.rows()), (MOST, 1))

    def test_great_numbers_that_are_not_reckoned(self):
        great = 10 ** 70
        rows = [
            ("copy", "b", "a"), ("new", "p", "box"), ("put", "p", "item", "b"), ("get", "c", "p", "item"), ("see", "c"),
            ("call", "c", "g", ["c"]), ("return", "c"),
        ]
        g = ("g", numbers("a"), [], "number", [BACK])
        made = run(rows, [great], numbers("a"), numbers("b", "c") + objects("p"), "number", [g])
        self.assertEqual(made, (("done", great), [("number", great)]))


class TestState(unittest.TestCase):
    FRAMES = [("all", 15, {"n": 1, "o": ("object", 4), "m": -2, "p": None}), ("all", 0, {"n": 0, "o": None, "m": 0, "p": None})]
    HEAP = {4: ("cell", {"item": 7, "next": ("object", 9)}), 9: ("empty", {}), 0: ("box", {"item": 10 ** 70})}

    def wrong(self, part, frames, heap):
        with self.assertRaises(InvalidState) as caught:
            State(all_source(), frames, heap)
        self.assertEqual(caught.exception.part, part)

    def test_its_parts(self):
        state = State(all_source(), self.FRAMES, self.HEAP)
        self.assertEqual((state.frames(), state.heap()), (self.FRAMES, self.HEAP))
        self.assertEqual([type(state.frames()), type(state.frames()[0]), type(state.heap()[4])], [list, tuple, tuple])
        state = State(heap={}, frames=[("make", 1, {"c": None})], source=all_source())
        self.assertEqual((state.frames(), state.heap()), ([("make", 1, {"c": None})], {}))

    def test_nothing_is_kept(self):
        frames, heap = copy.deepcopy(self.FRAMES), copy.deepcopy(self.HEAP)
        state = State(all_source(), frames, heap)
        frames[0][2]["n"] = 5
        frames.clear()
        heap[4][1]["item"] = 8
        heap.clear()
        told = state.frames(), state.heap()
        told[0][0][2]["n"] = 5
        told[0].clear()
        told[1][4][1].clear()
        told[1].clear()
        self.assertEqual((state.frames(), state.heap()), (self.FRAMES, self.HEAP))

    def test_no_source(self):
        for thing in odd_things():
            if not isinstance(thing, Source):
                with self.assertRaises(InvalidSource) as caught:
                    State(thing, None, None)
                self.assertEqual((caught.exception.part, caught.exception.at), ("source", None))

    def test_how_many_frames(self):
        self.wrong("frames", [], {})
        full = [self.FRAMES[0]] * 49
        self.assertEqual(len(State(all_source(), full + [self.FRAMES[1]], self.HEAP).frames()), 50)
        self.wrong("frames", full + [self.FRAMES[0], self.FRAMES[1]], self.HEAP)

    def test_frames_stand_at_calls(self):
        outer, inner = self.FRAMES
        make = ("make", 0, {"c": None})
        State(all_source(), [(outer[0], 16, outer[2]), make], self.HEAP)
        State(all_source(), [outer, outer, (outer[0], 16, outer[2]), make], self.HEAP)
        for frames in ([(outer[0], 16, outer[2]), inner], [outer, make], [(outer[0], 14, outer[2]), inner], [make, inner],
                       [outer, make, inner], [(outer[0], 0, outer[2]), inner]):
            self.wrong("frames", frames, self.HEAP)

    def test_rows(self):
        outer, inner = self.FRAMES
        for row in (0, len(ALL_ROWS) - 1):
            State(all_source(), [(inner[0], row, inner[2])], {})
        for row in (-1, len(ALL_ROWS), True, False, None, 1.0, "0", 39):
            self.wrong("frames", [(inner[0], row, inner[2])], {})
        self.wrong("frames", [("make", 2, {"c": None})], {})

    def test_variables(self):
        name, row, variables = self.FRAMES[1]
        for wrong in ({}, {"n": 0, "o": None, "m": 0}, {**variables, "q": 0}, {**variables, "n": None}, {**variables, "n": True},
                      {**variables, "o": 0}, {**variables, "o": ("object", -1)}, {**variables, "o": ["object", 0]},
                      {**variables, "o": ("object",)}, {**variables, "o": ("thing", 0)}, {**variables, "o": ("object", True)},
                      {**variables, "o": ("object", "0")}, {**variables, "o": ("object", 0, 0)}, [*variables],
                      {"n": 0, "o": None, "m": 0, 4: None}, {"n": 0, "o": None, "m": 0, ("p",): None}):
            self.wrong("frames", [(name, row, wrong)], self.HEAP)
        State(all_source(), [(name, row, {"p": None, "n": 10 ** 70, "m": -1, "o": ("object", 9)})], self.HEAP)

    def test_heaps(self):
        frames = [self.FRAMES[1]]
        for heap in ([], (), None, 0, {-1: ("empty", {})}, {True: ("empty", {})}, {False: ("empty", {})}, {1.0: ("empty", {})},
                     {"0": ("empty", {})}, {None: ("empty", {})}, {0: ["empty", {}]}, {0: ("empty",)}, {0: ("empty", {}, {})},
                     {0: ("other", {})}, {0: (None, {})}, {0: (["empty"], {})}, {0: ("empty", {"item": 0})}, {0: ("box", {})},
                     {0: ("box", {"item": None})}, {0: ("box", {"item": True})}, {0: ("box", {"item": 0, "next": None})},
                     {0: ("cell", {"item": 0, "next": 0})}, {0: ("cell", {"item": 0, "next": ("object", -1)})},
                     {0: ("cell", {"item": 0, "next": ("object", 0.0)})}, {0: ("box", [("item", 0)])}, {0: ("box", {0: 0})},
                     {0: ("empty", {}), 1: None}, {(): ("empty", {})}):
            self.wrong("heap", frames, heap)
        State(all_source(), frames, {10 ** 30: ("cell", {"next": ("object", 10 ** 30), "item": -(10 ** 70)})})

    def test_objects(self):
        name, row, variables = self.FRAMES[1]
        self.wrong("objects", [(name, row, {**variables, "o": ("object", 0)})], {})
        self.wrong("objects", [(name, row, {**variables, "p": ("object", 5)})], self.HEAP)
        self.wrong("objects", [(name, row, variables)], {0: ("cell", {"item": 0, "next": ("object", 1)})})
        outer = (name, 15, {**variables, "o": ("object", 5)})
        self.wrong("objects", [outer, self.FRAMES[1]], self.HEAP)

    def test_which_is_first(self):
        name, row, variables = self.FRAMES[1]
        lost = {**variables, "o": ("object", 5)}
        self.wrong("frames", [(name, row, {})], None)
        self.wrong("frames", [(name, row, lost), (name, row, {})], {-1: None})
        self.wrong("heap", [(name, row, lost)], {0: ("cell", {"item": 0, "next": ("object", 1)}), 1: None})

    def test_anything_in_the_place_of_any_part(self):
        frames = [self.FRAMES[0], self.FRAMES[1]]
        for thing in odd_things():
            for path in paths_in(frames):
                if not (len(path) > 2 and (thing is None or type(thing) is int)):
                    self.wrong("frames", with_part(frames, path, thing), self.HEAP)
            for path in paths_in(self.HEAP):
                if not (len(path) > 2 and (thing is None or type(thing) is int)):
                    self.wrong("heap", self.FRAMES, with_part(self.HEAP, path, thing))

    def test_equality(self):
        state = State(all_source(), self.FRAMES, self.HEAP)
        turned = [(name, row, dict(reversed(list(held.items())))) for name, row, held in self.FRAMES]
        self.assertTrue(state == State(all_source(), turned, dict(reversed(list(self.HEAP.items())))))
        self.assertFalse(state != State(all_source(), self.FRAMES, self.HEAP))
        others = [
            State(Source([CELL, BOX, EMPTY, ("more", [])], all_source().functions()), self.FRAMES, self.HEAP),
            State(all_source(), self.FRAMES[:1], self.HEAP),
            State(all_source(), [self.FRAMES[0], ("all", 1, self.FRAMES[1][2])], self.HEAP),
            State(all_source(), [self.FRAMES[0], ("all", 0, {**self.FRAMES[1][2], "n": 1})], self.HEAP),
            State(all_source(), self.FRAMES, {**self.HEAP, 5: ("empty", {})}),
            State(all_source(), self.FRAMES, {**self.HEAP, 0: ("box", {"item": 1})}),
        ]
        for other in others:
            self.assertFalse(state == other)
            self.assertTrue(state != other)
        for thing in (None, 0, [], state.frames(), all_source()):
            self.assertFalse(state == thing)
            self.assertFalse(thing == state)


class TestGoingOn(unittest.TestCase):
    def test_the_state_of_a_machine(self):
        machine = Machine(deep_source(), "f", [2])
        machine.steps(5)
        state = machine.state()
        self.assertEqual((state.frames(), state.heap()), (machine.frames(), machine.heap()))
        self.assertTrue(state == State(deep_source(), machine.frames(), machine.heap()))
        machine.steps(2)
        self.assertFalse(state == machine.state())

    def test_no_state_at_the_end(self):
        machine = Machine(deep_source(), "f", [0])
        finished(machine)
        with self.assertRaises(InvalidState) as caught:
            machine.state()
        self.assertEqual(caught.exception.part, "frames")

    def test_it_goes_on_from_each_moment(self):
        rows = [
            ("if", "n", 6), ("number", "m", 1), ("sub", "m", "n", "m"), ("call", "c", "f", ["m"]), ("new", "d", "cell"),
            ("put", "d", "next", "c"), ("see", "n"), ("see", "c"), ("return", "d"),
        ]
        source = function_source(rows, numbers("n"), numbers("m") + objects("c", "d"), "object")
        whole = Machine(source, "f", [3])
        finished(whole)
        machine = Machine(source, "f", [3])
        while machine.ended() is None:
            follower = going_on(machine.state())
            self.assertEqual((follower.log(), follower.rows(), follower.ended()), ([], 0, None))
            self.assertEqual((follower.frames(), follower.heap()), (machine.frames(), machine.heap()))
            result, log = finished(follower)
            self.assertEqual((result, machine.log() + log), (whole.ended(), whole.log()))
            self.assertEqual((follower.rows() + machine.rows(), follower.heap()), (whole.rows(), whole.heap()))
            machine.step()

    def test_new_objects_stand_behind_the_greatest(self):
        heap = {7: ("box", {"item": 3}), 2: ("empty", {})}
        machine = going_on(State(all_source(), [("make", 0, {"c": ("object", 2)})], heap))
        self.assertEqual(finished(machine), (("done", ("object", 8)), []))
        self.assertEqual(machine.heap(), {**heap, 8: ("cell", {"item": 0, "next": None})})
        machine = going_on(State(all_source(), [("make", 0, {"c": None})], {}))
        self.assertEqual(finished(machine)[0], ("done", ("object", 0)))

    def test_fields_of_old_objects(self):
        rows = [("get", "n", "o", "item"), ("add", "n", "n", "n"), ("put", "o", "item", "n"), ("see", "o"), ("return", "n")]
        source = function_source(rows, objects("o"), numbers("n"))
        heap = {3: ("box", {"item": 21})}
        machine = going_on(State(source, [("f", 0, {"o": ("object", 3), "n": 0})], heap))
        self.assertEqual(finished(machine), (("done", 42), [("object", "box")]))
        self.assertEqual((machine.heap(), heap), ({3: ("box", {"item": 42})}, {3: ("box", {"item": 21})}))

    def test_the_state_stays_as_it_is(self):
        state = State(all_source(), [("make", 0, {"c": None})], {0: ("cell", {"item": 1, "next": None})})
        first, second = going_on(state), going_on(state=state)
        finished(first)
        self.assertEqual(second.frames(), [("make", 0, {"c": None})])
        self.assertEqual(state.frames(), [("make", 0, {"c": None})])
        self.assertEqual(finished(second), finished(first))
        self.assertEqual(state.heap(), {0: ("cell", {"item": 1, "next": None})})

    def test_the_outermost_frame_is_that_of_the_state(self):
        frames = [("f", 3, {"n": 9, "m": 8}), ("f", 4, {"n": 5, "m": 0})]
        machine = going_on(State(deep_source(), frames, {}))
        machine.step()
        self.assertEqual((machine.frames(), machine.ended()), ([("f", 4, {"n": 9, "m": 5})], None))
        machine.step()
        self.assertEqual((machine.frames(), machine.ended()), ([], ("done", 9)))

    def test_no_state(self):
        for thing in odd_things():
            if not isinstance(thing, State):
                with self.assertRaises(InvalidArgument) as caught:
                    going_on(thing)
                self.assertEqual(caught.exception.part, "state")

    def test_fifty_frames_of_a_state(self):
        frames = [("f", 3, {"n": 9, "m": 8})] * 50
        machine = going_on(State(deep_source(), frames, {}))
        with self.assertRaises(LimitExceeded) as caught:
            machine.step()
        self.assertEqual(caught.exception.limit, 50)
        self.assertEqual((machine.rows(), machine.frames()), (0, frames))


class TestWholeRuns(unittest.TestCase):
    def long(self, rows_in_all):
        """A source and an argument for a run of so many rows."""
        rest = (rows_in_all - 3) % 3
        return function_source([("number", "one", 1)] + [("see", "one")] * rest + [
            ("if", "a", rest + 4), ("sub", "a", "a", "one"), ("jump", rest + 1), BACK,
        ], numbers("a"), numbers("one")), (rows_in_all - 3 - rest) // 3

    def test_an_outcome(self):
        source = function_source([("see", "a"), BACK], numbers("a"))
        self.assertEqual(outcome(source, "f", [4]), (("done", 4), [("number", 4)]))
        self.assertEqual(outcome(all_source(), "make", []), (("done", ("object", 0)), []))

    def test_two_thousand_rows(self):
        for many in (1998, 1999, 2000):
            source, argument = self.long(many)
            machine = Machine(source, "f", [argument])
            self.assertEqual(outcome(source, "f", [argument])[0], ("done", 0))
            self.assertEqual(finished(machine)[0], ("done", 0))
            self.assertEqual(machine.rows(), many)

    def test_more_rows(self):
        for many in (2001, 2002, 3000):
            source, argument = self.long(many)
            machine = Machine(source, "f", [argument])
            for go in (lambda: outcome(source, "f", [argument]), lambda: finished(machine), lambda: finished(machine=machine)):
                with self.assertRaises(LimitExceeded) as caught:
                    go()
                self.assertEqual(caught.exception.limit, 2000)
            self.assertEqual((machine.rows(), machine.ended()), (2000, None))

    def test_rows_that_were_done_are_counted(self):
        source, argument = self.long(2001)
        machine = Machine(source, "f", [argument])
        machine.steps(1500)
        with self.assertRaises(LimitExceeded):
            finished(machine)
        self.assertEqual(machine.rows(), 2000)
        self.assertTrue(machine.step())
        self.assertEqual((finished(machine)[0], machine.rows()), (("done", 0), 2001))
        source, argument = self.long(2000)
        machine = Machine(source, "f", [argument])
        machine.steps(1500)
        self.assertEqual((finished(machine)[0], machine.rows()), (("done", 0), 2000))

    def test_a_run_that_goes_on_has_its_own_rows(self):
        source, argument = self.long(2400)
        machine = Machine(source, "f", [argument])
        machine.steps(500)
        self.assertEqual(finished(going_on(machine.state()))[0], ("done", 0))

    def test_a_run_that_has_ended(self):
        machine = Machine(function_source([("see", "a"), BACK], numbers("a")), "f", [4])
        self.assertEqual(finished(machine), finished(machine))
        machine.log().clear()
        finished(machine)[1].clear()
        self.assertEqual(finished(machine), (("done", 4), [("number", 4)]))

    def test_a_run_without_an_end(self):
        with self.assertRaises(LimitExceeded) as caught:
            outcome(function_source([("jump", 0)]), "f", [])
        self.assertEqual(caught.exception.limit, 2000)


if __name__ == "__main__":
    unittest.main()
