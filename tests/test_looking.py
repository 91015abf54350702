import random
import unittest

from backframes.code import Code
from backframes.errors import CodeError, InvalidArgument, InvalidCode, InvalidNumber, LimitExceeded
from backframes.frames import Backs, FrameState, built
from backframes.looking import Watch, first_stop, left_out, set_variable, stops_at, told_frames, told_heap
from backframes.runs import CodeRun, rode, run_from
from backframes.source import Source
from tests.samples import all_backs, function_source, numbers, objects, odd_things
from tests.wild import wild_backs


def reg(name):
    return ("in", name)


def example():
    rows = [("add", "y", "x", "x"), ("see", "y"), ("return", "y")]
    source = Source([], [("f", [("x", "number")], [("y", "number")], "number", rows)])
    code = Code(source, "f", [([("a", "number")], [("add", "t", "a", "a"), ("look", 1), ("see", "t")], ("return", "t"))])
    return Backs(code, [FrameState(code, 1, [("f", 1, {"y": reg("t")})], unmade={}, own={}, claims=[])])


LOOP_ROWS = [
    ("new", "o", "cell"), ("put", "o", "item", "a"), ("put", "o", "next", "q"), ("copy", "q", "o"), ("call", "a", "less1", ["a"]), ("see", "a"),
    ("if", "a", 8), ("jump", 0), ("return", "q"),
]


def loop_backs():
    """Code that makes a row of objects; those at the points are not made, or are told by registers."""
    less1 = ("less1", numbers("n"), numbers("one"), "number", [("number", "one", 1), ("sub", "n", "n", "one"), ("return", "n")])
    source = function_source(LOOP_ROWS, numbers("a"), objects("q", "o"), kind="object", more=[less1])
    loop = [("look", 3), ("sub", "j", "i", "one"), ("look", 7), ("new", "c", "cell"), ("put", "c", "item", "i"), ("put", "c", "next", "p"), ("see", "j"), ("guard", "j", 2)]
    blocks = [
        (numbers("r"), [("number", "one", 1), ("nil", "n")], ("go", 1, ["r", "n"])),
        (numbers("i") + objects("p"), loop, ("if", "j", (1, ["j", "c"]), (2, ["c"]))),
        (objects("last"), [], ("return", "last")),
    ]
    code = Code(source, "f", blocks)
    made = {4: ("cell", {"item": reg("i"), "next": reg("p")})}
    first = FrameState(code, 3, [("f", 0, {"a": reg("i"), "q": reg("p")})], unmade={}, own={}, claims=[])
    inner = [("f", 4, {"q": ("unmade", 4), "o": ("unmade", 4)}), ("less1", 2, {"n": reg("j")})]
    second = FrameState(code, 7, inner, unmade=made, own={}, claims=[])
    third = FrameState(code, 2, [("f", 6, {"a": reg("j"), "q": reg("c")})], unmade={}, own={}, claims=[])
    return Backs(code, [first, second, third])


def great_backs():
    """Going back at the point tells a number that is too great."""
    source = function_source([("return", "a")], numbers("a"), numbers("b"))
    code = Code(source, "f", [(numbers("r"), [("look", 0)], ("return", "r"))])
    return Backs(code, [FrameState(code, 0, [("f", 0, {"a": ("times", reg("r"), ("number", 10 ** 9))})], unmade={}, own={}, claims=[])])


class TestTold(unittest.TestCase):
    def test_at_a_point(self):
        run = CodeRun(loop_backs(), [2])
        self.assertEqual([told_frames(run), told_heap(run)], [[], {}])
        run.steps(3)
        self.assertEqual([told_frames(run), told_heap(run)], [[("f", 0, {"a": 2, "q": None})], {}])
        run.steps(2)
        frames = [("f", 4, {"q": ("object", 0), "o": ("object", 0)}), ("less1", 2, {"n": 1})]
        self.assertEqual(told_frames(run), frames)
        self.assertEqual(told_heap(run), {0: ("cell", {"item": 2, "next": None})})
        self.assertEqual([run.place(), run.heap(), run.frames(), run.went_back()], [(1, 2), {}, [], None])
        run.steps(5)
        self.assertEqual([run.place(), told_frames(run)], [(1, 7), [("f", 6, {"a": 1, "q": ("object", 0)})]])
        self.assertEqual(told_heap(run), run.heap())
        run.steps(4)
        self.assertEqual(told_frames(run), [("f", 4, {"q": ("object", 1), "o": ("object", 1)}), ("less1", 2, {"n": 0})])
        self.assertEqual(told_heap(run), {0: ("cell", {"item": 2, "next": None}), 1: ("cell", {"item": 1, "next": ("object", 0)})})

    def test_in_the_interpreter_and_at_the_end(self):
        run = CodeRun(loop_backs(), [2], choice=(7, 0))
        run.steps(6)
        self.assertEqual(run.went_back(), (7, 0))
        self.assertEqual([told_frames(run), told_heap(run)], [run.frames(), run.heap()])
        self.assertEqual(told_frames(run)[0], ("f", 4, {"a": 0, "q": ("object", 0), "o": ("object", 0)}))
        rode(run)
        self.assertEqual([told_frames(run), told_heap(run)], [[], run.heap()])
        run = CodeRun(loop_backs(), [2])
        rode(run)
        self.assertEqual([run.ended()[0], told_frames(run), told_heap(run)], ["done", [], run.heap()])

    def test_between_points(self):
        run = CodeRun(loop_backs(), [2])
        run.steps(7)
        self.assertEqual([run.place(), told_frames(run), told_heap(run)], [(1, 4), [], run.heap()])

    def test_what_is_returned_is_new(self):
        run = CodeRun(loop_backs(), [2])
        run.steps(5)
        told_frames(run)[0][2].clear()
        told_frames(run).clear()
        told_heap(run)[0][1].clear()
        self.assertEqual(told_frames(run)[1], ("less1", 2, {"n": 1}))
        self.assertEqual(told_heap(run), {0: ("cell", {"item": 2, "next": None})})

    def test_a_run_from_a_point(self):
        run = run_from(loop_backs(), 3, {"i": 5, "one": 1, "p": ("object", 8)}, {8: ("box", {"item": 1})})
        self.assertEqual(told_frames(run), [])
        run.step()
        self.assertEqual(told_frames(run)[1], ("less1", 2, {"n": 4}))
        self.assertEqual(told_heap(run=run)[9], ("cell", {"item": 5, "next": ("object", 8)}))

    def test_what_they_raise(self):
        for odd in odd_things():
            for call in (told_frames, told_heap):
                with self.assertRaises(InvalidArgument) as caught:
                    call(odd)
                self.assertEqual(caught.exception.part, "run")
        run = CodeRun(great_backs(), [10 ** 52])
        for call in (told_frames, told_heap):
            with self.assertRaises(LimitExceeded) as caught:
                call(run)
            self.assertEqual(caught.exception.limit, 10 ** 60)
        self.assertEqual(run.place(), (0, 0))
        self.assertEqual(told_frames(CodeRun(great_backs(), [10 ** 51])), [("f", 0, {"a": 10 ** 60})])


class TestLeftOut(unittest.TestCase):
    def test_variables_without_recipes(self):
        self.assertEqual(left_out(example(), 1), [(0, "x")])
        backs = loop_backs()
        self.assertEqual([left_out(backs, point) for point in (2, 3, 7)], [[(0, "o")], [(0, "o")], [(0, "a"), (1, "one")]])
        self.assertEqual(left_out(point=2, backs=all_backs()), [(0, "n"), (0, "o"), (0, "p")])

    def test_what_it_raises(self):
        for odd in odd_things():
            if not isinstance(odd, Backs):
                with self.assertRaises(InvalidCode) as caught:
                    left_out(odd, odd)
                self.assertEqual((caught.exception.part, caught.exception.at), ("backs", None))
            with self.assertRaises(InvalidNumber) as caught:
                left_out(example(), odd)
            self.assertIs(caught.exception.number, odd)


class TestSet(unittest.TestCase):
    def test_in_the_interpreter(self):
        run = CodeRun(loop_backs(), [2], choice=(7, 0))
        run.steps(6)
        set_variable(run, 1, "n", 40)
        set_variable(value=None, variable="q", at=0, run=run)
        set_variable(run, 0, "o", ("object", 0))
        self.assertEqual(run.frames(), [("f", 4, {"a": 0, "q": None, "o": ("object", 0)}), ("less1", 2, {"n": 40, "one": 0})])
        run.steps(3)
        self.assertEqual([run.log(), run.frames()[0][1:]], [[("number", 40)], (7, {"a": 40, "q": None, "o": ("object", 0)})])

    def test_at_a_point_it_goes_back_first(self):
        run = CodeRun(loop_backs(), [2])
        run.steps(5)
        set_variable(run, 0, "a", 9)
        self.assertEqual(run.went_back(), (7, 0))
        self.assertEqual(run.frames(), [("f", 4, {"a": 9, "q": ("object", 0), "o": ("object", 0)}), ("less1", 2, {"n": 1, "one": 0})])
        self.assertEqual(run.heap(), {0: ("cell", {"item": 2, "next": None})})
        run = CodeRun(loop_backs(), [2])
        run.steps(14)
        self.assertEqual(run.place(), (1, 2))
        set_variable(run, 1, "one", 3)
        self.assertEqual(run.went_back(), (7, 1))

    def test_an_object_that_going_back_makes(self):
        run = CodeRun(loop_backs(), [2])
        run.steps(5)
        with self.assertRaises(InvalidArgument):
            set_variable(run, 0, "q", ("object", 1))
        set_variable(run, 0, "q", ("object", 0))
        self.assertEqual(run.frames()[0][2]["q"], ("object", 0))

    def test_great_numbers(self):
        run = CodeRun(example(), [1])
        run.steps(1)
        set_variable(run, 0, "y", 10 ** 5000)
        rode(run)
        self.assertEqual(run.ended(), ("done", 10 ** 5000))

    def raises(self, error, run, *rest):
        """The error is raised, and the run stays as it is."""
        told = [run.place(), run.registers(), run.log(), run.went_back(), run.frames(), run.heap()]
        with self.assertRaises(error) as caught:
            set_variable(run, *rest)
        self.assertEqual([run.place(), run.registers(), run.log(), run.went_back(), run.frames(), run.heap()], told)
        return caught.exception

    def test_runs_that_stand_elsewhere(self):
        for odd in odd_things():
            with self.assertRaises(InvalidArgument) as caught:
                set_variable(odd, odd, odd, odd)
            self.assertEqual(caught.exception.part, "run")
        between, ended = CodeRun(loop_backs(), [2]), CodeRun(loop_backs(), [2])
        rode(ended)
        behind = CodeRun(loop_backs(), [2], choice=(3, 0))
        rode(behind)
        for run in (between, ended, behind):
            self.assertEqual(self.raises(InvalidArgument, run, -1, None, "x").part, "run")

    def test_which_is_first(self):
        great = CodeRun(great_backs(), [10 ** 60])
        self.assertEqual(self.raises(LimitExceeded, great, True, 0, 0).limit, 10 ** 60)
        back = CodeRun(loop_backs(), [2], choice=(7, 0))
        back.steps(6)
        at_point = CodeRun(loop_backs(), [2])
        at_point.steps(5)
        for run in (back, at_point):
            for at in [*odd_things(), -1, 2, 1.0]:
                self.assertIs(self.raises(InvalidNumber, run, at, at, at).number, at)
            for variable in [*odd_things(), "n", "x", "f"]:
                self.assertEqual(self.raises(InvalidArgument, run, 0, variable, variable).part, "variable")
            for value in [*odd_things(), "1", ("object", 1), ("object", -1), [("object", 0)]]:
                if value is not None:
                    self.assertEqual(self.raises(InvalidArgument, run, 0, "q", value).part, "value")
                if not isinstance(value, int) or isinstance(value, bool):
                    self.assertEqual(self.raises(InvalidArgument, run, 1, "n", value).part, "value")


class TestStops(unittest.TestCase):
    def test_where_points_stand(self):
        backs = loop_backs()
        told = {(name, row): stops_at(backs, name, row) for name in ("f", "less1") for row in range(3)}
        self.assertEqual(told, {("f", 0): [3], ("f", 1): [], ("f", 2): [], ("less1", 0): [], ("less1", 1): [], ("less1", 2): [7]})
        self.assertEqual([stops_at(backs, "f", 4), stops_at(row=6, name="f", backs=backs)], [[], [2]])
        source = function_source([("see", "a"), ("return", "a")], numbers("a"))
        code = Code(source, "f", [(numbers("r"), [("look", k) for k in (9, 4, 7)], ("return", "r"))])
        rows = {9: 0, 4: 1, 7: 0}
        backs = Backs(code, [FrameState(code, k, [("f", rows[k], {"a": reg("r")})], unmade={}, own={}, claims=[]) for k in rows])
        self.assertEqual([stops_at(backs, "f", 0), stops_at(backs, "f", 1)], [[7, 9], [4]])
        self.assertEqual([first_stop(backs, [1], "f", 0), first_stop(backs, [1], "f", 1)], [9, 4])

    def test_the_first_one(self):
        backs = loop_backs()
        self.assertEqual([first_stop(backs, [2], "f", 0), first_stop(backs, [2], "less1", 2), first_stop(backs, [2], "f", 6)], [3, 7, 2])
        self.assertIsNone(first_stop(backs, [2], "f", 3))
        self.assertIsNone(first_stop(row=8, name="f", arguments=[2], backs=backs))

    def test_a_guard_that_goes_back(self):
        backs = loop_backs()
        self.assertEqual(first_stop(backs, [1], "f", 6), 2)
        blocks = backs.code.blocks()
        blocks[1][1].append(("look", 11))
        code = Code(backs.code.source, "f", blocks)
        more = [FrameState(code, state.point, state.frames(), unmade=state.unmade(), own={}, claims=[]) for state in backs.states()]
        more.append(FrameState(code, 11, [("f", 7, {"q": reg("c"), "a": reg("j")})], unmade={}, own={}, claims=[]))
        self.assertIsNone(first_stop(Backs(code, more), [1], "f", 7))
        self.assertEqual(first_stop(Backs(code, more), [2], "f", 7), 11)

    def endless(self, rows):
        source = function_source([("jump", 0), ("return", "a")], numbers("a"))
        code = Code(source, "f", [(numbers("r"), rows, ("go", 1, [])), ([], [("look", 4)], ("go", 1, []))])
        points = {row[-1]: 1 for row in rows if row[0] == "look"}
        states = [FrameState(code, k, [("f", points.get(k, 0), {"a": reg("r")} if k in points else {})], unmade={}, own={}, claims=[]) for k in code.points()]
        return Backs(code, states)

    def test_two_thousand_rows(self):
        backs = self.endless([])
        self.assertEqual(first_stop(backs, [1], "f", 0), 4)
        with self.assertRaises(LimitExceeded) as caught:
            first_stop(backs, [1], "f", 1)
        self.assertEqual(caught.exception.limit, 2000)

    def test_what_rows_raise(self):
        source = function_source([("times", "a", "a", "a"), ("return", "a")], numbers("a"))
        code = Code(source, "f", [(numbers("r"), [("times", "s", "r", "r"), ("look", 0)], ("return", "s"))])
        backs = Backs(code, [FrameState(code, 0, [("f", 1, {"a": reg("s")})], unmade={}, own={}, claims=[])])
        self.assertEqual(first_stop(backs, [10 ** 30], "f", 1), 0)
        with self.assertRaises(LimitExceeded) as caught:
            first_stop(backs, [10 ** 31], "f", 1)
        self.assertEqual(caught.exception.limit, 10 ** 60)

    def test_wrong_arguments(self):
        backs = loop_backs()
        for odd in odd_things():
            if not isinstance(odd, Backs):
                for call in (lambda: stops_at(odd, odd, odd), lambda: first_stop(odd, odd, odd, odd)):
                    with self.assertRaises(InvalidCode) as caught:
                        call()
                    self.assertEqual((caught.exception.part, caught.exception.at), ("backs", None))
            for name in (odd, "g", "a", "cell"):
                for call in (lambda: stops_at(backs, name, odd), lambda: first_stop(backs, odd, name, odd)):
                    with self.assertRaises(InvalidArgument) as caught:
                        call()
                    self.assertEqual(caught.exception.part, "name")
            for row in (odd, 3, -1):
                for call in (lambda: stops_at(backs, "less1", row), lambda: first_stop(backs, odd, "less1", row)):
                    with self.assertRaises(InvalidNumber) as caught:
                        call()
                    self.assertIs(caught.exception.number, row)
            with self.assertRaises(InvalidArgument) as caught:
                first_stop(backs, odd, "f", 0)
            self.assertEqual(caught.exception.part, "arguments")
        for arguments in ([], [True], [None], [1, 2], (1,)):
            with self.assertRaises(InvalidArgument):
                first_stop(backs, arguments, "f", 0)


class TestWatch(unittest.TestCase):
    def test_the_example_of_the_document(self):
        backs = example()
        watch = Watch(backs, [4])
        told = [left_out(backs, 1), stops_at(backs, "f", 1), watch.do(("point",)), watch.frames()]
        self.assertEqual(told, [[(0, "x")], [1], ("point", 1, 0), [("f", 1, {"y": 8})]])
        told = [watch.do(("set", 0, "y", 5)), watch.do(("row", "f", 2)), watch.log(), watch.undo(), watch.text()]
        self.assertEqual(told, [("interpreter", "f", 1), ("interpreter", "f", 2), [("number", 5)], True, "interpreter f 1\nf 1\n  x = 0\n  y = 5\n"])

    def test_steps_and_points(self):
        watch = Watch(arguments=[2], backs=loop_backs())
        self.assertEqual([watch.here(), watch.do(("step",)), watch.do(command=("step",))], [("code", 0, 0), ("code", 0, 1), ("code", 0, 2)])
        places = [watch.do(("point",)) for _ in range(7)]
        self.assertEqual(places[:3], [("point", 3, 0), ("point", 7, 0), ("point", 2, 0)])
        self.assertEqual(places[3:6], [("point", 3, 1), ("point", 7, 1), ("point", 2, 1)])
        self.assertEqual(places[6], ("interpreter", "f", 6))
        self.assertEqual([watch.do(("point",)), watch.do(("point",))], [("interpreter", "f", 8), ("ended", ("object", 1))])
        self.assertEqual(watch.log(), [("number", 1), ("number", 0)])
        self.assertEqual(len(watch.commands()), 11)

    def test_at_the_end(self):
        watch = Watch(example(), [3])
        for command in (("point",), ("point",), ("point",), ("step",), ("row", "f", 0)):
            told = watch.do(command)
        self.assertEqual(told, ("ended", 6))
        self.assertEqual(watch.commands(), [("point",), ("point",), ("point",), ("step",), ("row", "f", 0)])
        self.assertEqual([watch.frames(), watch.heap(), watch.text()], [[], {}, "ended 6\nlog number 6\n"])
        for command in (("back",), ("set", 0, "x", 1)):
            with self.assertRaises(InvalidArgument) as caught:
                watch.do(command)
            self.assertEqual(caught.exception.part, "run")
        for _ in range(4):
            watch.undo()
        self.assertEqual(watch.here(), ("point", 1, 0))

    def test_rows(self):
        watch = Watch(loop_backs(), [2])
        self.assertEqual([watch.do(("row", "less1", 2)), watch.do(("row", "less1", 2))], [("point", 7, 0), ("point", 7, 1)])
        watch.undo()
        self.assertEqual(watch.do(("back",)), ("interpreter", "less1", 2))
        self.assertEqual([watch.do(("row", "less1", 2)), watch.do(("row", "f", 0)), watch.do(("row", "f", 0))], [("interpreter", "less1", 2), *[("ended", ("object", 1))] * 2])
        watch = Watch(loop_backs(), [2])
        self.assertEqual([watch.do(("row", "f", 6)), watch.do(("row", "f", 3))], [("point", 2, 0), ("ended", ("object", 1))])

    def test_back(self):
        watch = Watch(loop_backs(), [3])
        with self.assertRaises(InvalidArgument) as caught:
            watch.do(("back",))
        self.assertEqual(caught.exception.part, "run")
        watch.do(("point",))
        watch.do(("point",))
        told_ahead = [watch.frames(), watch.heap()]
        self.assertEqual(watch.do(("back",)), ("interpreter", "less1", 2))
        self.assertEqual(watch.heap(), told_ahead[1])
        self.assertEqual(watch.frames()[0][2], {**told_ahead[0][0][2], "a": 0})
        with self.assertRaises(InvalidArgument):
            watch.do(("back",))
        self.assertEqual(watch.commands(), [("point",), ("point",), ("back",)])

    def test_undo(self):
        watch = Watch(loop_backs(), [2])
        self.assertIs(watch.undo(), False)
        told = [self.told(watch)]
        commands = [("step",), ("point",), ("point",), ("step",), ("point",), ("set", 0, "a", 4), ("row", "f", 0), ("step",), ("point",)]
        for command in commands:
            watch.do(command)
            told.append(self.told(watch))
        for at in reversed(range(len(commands))):
            self.assertEqual([watch.commands(), self.told(watch)], [commands[:at + 1], told[at + 1]])
            self.assertIs(watch.undo(), True)
        self.assertEqual([self.told(watch), watch.commands(), watch.undo()], [told[0], [], False])
        for command, expected in zip(commands, told[1:]):
            watch.do(command)
            self.assertEqual(self.told(watch), expected)

    def told(self, watch):
        return [watch.here(), watch.frames(), watch.heap(), watch.log(), watch.text()]

    def test_thirty_commands(self):
        watch = Watch(example(), [3])
        for _ in range(30):
            watch.do(("step",))
        for command in (("step",), ("point",), ("back",), ("set", True, None, None), ("row", "f", 0)):
            with self.assertRaises(LimitExceeded) as caught:
                watch.do(command)
            self.assertEqual(caught.exception.limit, 30)
        for command, error in ((("steps",), InvalidArgument), (("row", "g", 0), InvalidArgument), (("row", "f", 3), InvalidNumber)):
            with self.assertRaises(error):
                watch.do(command)
        self.assertEqual([len(watch.commands()), watch.undo(), watch.do(("step",))], [30, True, ("ended", 6)])

    def test_wrong_commands(self):
        watch = Watch(loop_backs(), [2])
        wrong = [("Step",), ("step", 1), ["step"], "step", ("point", 3), ("row", "f"), ("row",), ("row", "f", 0, 0), ("back", 1), ("set",), ("set", 0, "a"), ("set", 0, "a", 1, 1),
                 ("undo",), ("here",), (b"step",), (("step",),), (["step"],)]
        for command in [*wrong, *odd_things()]:
            with self.assertRaises(InvalidArgument) as caught:
                watch.do(command)
            self.assertEqual(caught.exception.part, "command")
        for odd in [*odd_things(), "g", "a"]:
            with self.assertRaises(InvalidArgument) as caught:
                watch.do(("row", odd, odd))
            self.assertEqual(caught.exception.part, "name")
        for odd in [*odd_things(), -1, 9]:
            with self.assertRaises(InvalidNumber) as caught:
                watch.do(("row", "f", odd))
            self.assertIs(caught.exception.number, odd)
            with self.assertRaises(InvalidArgument) as caught:
                watch.do(("set", odd, odd, odd))
            self.assertEqual(caught.exception.part, "run")
        watch.do(("point",))
        for command, part in ((("set", 0, "x", 1), "variable"), (("set", 0, "a", None), "value"), (("set", 0, "q", ("object", 0)), "value")):
            with self.assertRaises(InvalidArgument) as caught:
                watch.do(command)
            self.assertEqual(caught.exception.part, part)
        with self.assertRaises(InvalidNumber) as caught:
            watch.do(("set", 1, "x", "x"))
        self.assertEqual(caught.exception.number, 1)
        self.assertEqual([watch.commands(), watch.here(), watch.frames()], [[("point",)], ("point", 3, 0), [("f", 0, {"a": 2, "q": None})]])

    def test_wrong_sessions(self):
        for odd in odd_things():
            if not isinstance(odd, Backs):
                with self.assertRaises(InvalidCode):
                    Watch(odd, odd)
            with self.assertRaises(InvalidArgument) as caught:
                Watch(example(), odd)
            self.assertEqual(caught.exception.part, "arguments")

    def test_two_thousand_steps_of_the_interpreter(self):
        source = function_source([("sub", "a", "a", "o"), ("if", "a", 3), ("jump", 0), ("return", "a")], numbers("a"), numbers("o"))
        code = Code(source, "f", [(numbers("r"), [("look", 0)], ("return", "r"))])
        backs = Backs(code, [FrameState(code, 0, [("f", 0, {"a": reg("r"), "o": ("number", 1)})], unmade={}, own={}, claims=[])])
        # There are three rows for each number but the last one, for which there are two: 2000 and 2003 rows.
        for number, right in ((667, True), (668, False)):
            watch = Watch(backs, [number])
            watch.do(("back",))
            if right:
                self.assertEqual(watch.do(("row", "f", 3)), ("interpreter", "f", 3))
                continue
            with self.assertRaises(LimitExceeded) as caught:
                watch.do(("row", "f", 3))
            self.assertEqual([caught.exception.limit, watch.here(), watch.commands()], [2000, ("interpreter", "f", 0), [("back",)]])

    def test_just_two_thousand_steps(self):
        """A point at the 2000th step is come to; one at the 2001st is not."""
        for rows, ended in ((0, True), (1, False)):
            source = function_source([("jump", 0), ("return", "a")], numbers("a"))
            inner = [("look", 5), ("sub", "j", "i", "one")]
            blocks = [(numbers("r"), [("number", "one", 1)] + [("number", f"n{k}", 0) for k in range(rows)], ("go", 1, ["r"])),
                      (numbers("i"), inner, ("if", "j", (1, ["j"]), (2, []))), ([], [("look", 6)], ("return", "r"))]
            code = Code(source, "f", blocks)
            backs = Backs(code, [FrameState(code, 5, [("f", 0, {})], unmade={}, own={}, claims=[]), FrameState(code, 6, [("f", 1, {"a": reg("r")})], unmade={}, own={}, claims=[])])
            watch = Watch(backs, [666])
            if ended:
                self.assertEqual([watch.do(("row", "f", 1)), first_stop(backs, [666], "f", 1)], [("point", 6, 0), 6])
                continue
            for call in (lambda: watch.do(("row", "f", 1)), lambda: first_stop(backs, [666], "f", 1)):
                with self.assertRaises(LimitExceeded) as caught:
                    call()
                self.assertEqual(caught.exception.limit, 2000)
            self.assertEqual([watch.here(), watch.commands()], [("code", 0, 0), []])

    def test_what_rows_raise(self):
        watch = Watch(great_backs(), [10 ** 55])
        self.assertEqual(watch.here(), ("point", 0, 0))
        for call in (watch.frames, watch.heap, watch.text, lambda: watch.do(("back",)), lambda: watch.do(("set", 5, 5, 5))):
            with self.assertRaises(LimitExceeded) as caught:
                call()
            self.assertEqual(caught.exception.limit, 10 ** 60)
        self.assertEqual([watch.here(), watch.log(), watch.commands(), watch.do(("step",)), watch.do(("point",))], [("point", 0, 0), [], [], ("code", 0, 1), ("ended", 10 ** 55)])

    def test_texts(self):
        watch = Watch(loop_backs(), [1])
        told = [watch.text()]
        for command in (("point",), ("point",), ("step",), ("point",), ("point",), ("point",), ("point",)):
            watch.do(command)
            told.append(watch.text())
        self.assertEqual(told, [
            "code 0 0\n",
            "point 3 0\nf 0\n  a = 1\n  o = ?\n  q = nil\n",
            "point 7 0\nf 4\n  a = ?\n  o = object 0\n  q = object 0\nless1 2\n  n = 0\n  one = ?\n",
            "code 1 3\n",
            "point 2 0\nf 6\n  a = 0\n  o = ?\n  q = object 0\nlog number 0\n",
            "interpreter f 6\nf 6\n  a = 0\n  o = nil\n  q = object 0\nlog number 0\n",
            "interpreter f 8\nf 8\n  a = 0\n  o = nil\n  q = object 0\nlog number 0\n",
            "ended object 0\nlog number 0\n",
        ])

    def test_texts_of_logs_and_results(self):
        rows = [("new", "o", "box"), ("see", "o"), ("nil", "o"), ("see", "o"), ("see", "a"), ("return", "o")]
        source = function_source(rows, numbers("a"), objects("o"), kind="object")
        code = Code(source, "f", [(numbers("r"), [("new", "x", "box"), ("see", "x"), ("nil", "n"), ("see", "n"), ("see", "r")], ("return", "n"))])
        watch = Watch(Backs(code, []), [-7])
        watch.do(("point",))
        self.assertEqual(watch.text(), "ended nil\nlog object box\nlog nil\nlog number -7\n")

    def test_texts_of_great_numbers(self):
        edges = [10 ** k + more for k in (60, 120, 800, 801) for more in (-1, 0, 1)]
        edges += [-number for number in edges] + [10 ** 119, 7 * 10 ** 179 + 10 ** 61, 12 ** 900]
        for number in (*edges, 10 ** 5000, -(10 ** 4999) - 12, -(10 ** 1600) * 7):
            watch = Watch(example(), [0])
            watch.do(("point",))
            watch.do(("set", 0, "y", number))
            line = watch.text().split("\n")[3]
            figures = line[len("  y = "):].lstrip("-")
            value = 0
            for k in range(0, len(figures), 1000):
                part = figures[k:k + 1000]
                value = value * 10 ** len(part) + int(part)
            self.assertEqual([value, figures[0] != "0", "-" in line], [abs(number), True, number < 0])
        watch.do(("point",))
        watch.do(("point",))
        self.assertTrue(watch.text().startswith("ended -7000"))

    def test_what_is_returned_is_new(self):
        watch = Watch(loop_backs(), [2])
        watch.do(("point",))
        watch.do(("point",))
        for call in (watch.commands, watch.frames, watch.log, watch.heap):
            told = call()
            call().clear()
            self.assertEqual(call(), told)
        watch.frames()[0][2].clear()
        self.assertEqual(watch.frames()[0][2], {"q": ("object", 0), "o": ("object", 0)})

    def test_calls_that_fail(self):
        """A call that fails halfway leaves the session as it was, log and objects too."""
        rows = [("see", "n"), ("put", "x", "item", "n"), ("times", "n", "n", "n"), ("times", "n", "n", "n"), ("return", "n")]
        g = ("g", numbers("n") + objects("x"), [], "number", rows)
        source = function_source([("new", "o", "box"), ("call", "a", "g", ["a", "o"]), ("return", "a")], numbers("a"), objects("o"), more=[g])
        code = Code(source, "f", [(numbers("r"), [("new", "x", "box"), ("call", "t", "g", ["r", "x"]), ("look", 0)], ("return", "t"))])
        watch = Watch(Backs(code, [FrameState(code, 0, [("f", 2, {"a": reg("t")})], unmade={}, own={}, claims=[])]), [10 ** 20])
        with self.assertRaises(LimitExceeded):
            watch.do(("point",))
        self.assertEqual([watch.here(), watch.log(), watch.heap(), watch.commands()], [("code", 0, 0), [], {}, []])
        watch.do(("step",))
        with self.assertRaises(LimitExceeded):
            watch.do(("step",))
        self.assertEqual([watch.here(), watch.log(), watch.heap(), watch.commands()], [("code", 0, 1), [], {0: ("box", {"item": 0})}, [("step",)]])


class TestRandom(unittest.TestCase):
    def test_sessions_against_runs(self):
        """A session tells what a run tells that does the same steps."""
        for seed in range(60):
            chance = random.Random(seed)
            backs = wild_backs(chance)
            watch, done = Watch(backs, [chance.randint(-2, 3), None]), 0
            told = []
            for _ in range(30):
                command = chance.choice([("step",), ("step",), ("point",), ("row", "f", chance.randint(0, 13)), ("back",), ("undo",), ("set", 0, "a", 3)])
                ahead = self.told(watch)
                try:
                    if command[0] == "undo":
                        self.assertEqual(watch.undo(), len(told) > 0)
                        if told:
                            self.assertEqual(self.told(watch), told.pop())
                        continue
                    watch.do(command)
                    told.append(ahead)
                except CodeError:
                    self.assertEqual(self.told(watch), ahead)
                self.assertEqual(len(watch.commands()), len(told))
                done += 1
            self.assertGreater(done, 5)

    def told(self, watch):
        parts = [watch.here(), watch.log(), watch.commands()]
        try:
            return [*parts, watch.frames(), watch.heap(), watch.text()]
        except LimitExceeded as error:
            return [*parts, error.limit]

    def test_what_is_told_at_points_is_what_going_back_builds(self):
        for seed in range(60):
            backs = wild_backs(random.Random(seed))
            for number in (0, 2):
                run = CodeRun(backs, [number, None])
                try:
                    for _ in range(60):
                        if run.place() is not None and run.place() in [backs.code.place(point) for point in backs.code.points()]:
                            self.check(run)
                        run.step()
                except LimitExceeded:
                    continue

    def check(self, run):
        point = next(point for point in run.backs.code.points() if run.backs.code.place(point) == run.place())
        frames, heap = told_frames(run), told_heap(run)
        state = built(run.backs.state_at(point), run.registers(), run.heap())
        self.assertEqual(heap, state.heap())
        left = left_out(run.backs, point)
        for at, (name, row, variables) in enumerate(state.frames()):
            shown = {variable: variables[variable] for variable in variables if (at, variable) not in left}
            self.assertEqual(frames[at], (name, row, shown))


if __name__ == "__main__":
    unittest.main()
