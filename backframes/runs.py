"""Code that runs, and goes back to the interpreter."""

from backframes.codeforms import end_goals, row_point
from backframes.errors import InvalidArgument, LimitExceeded
from backframes.frames import built, check_backs
from backframes.interpreter import Interpreter, opened_frame, stack_of
from backframes.moments import check_heap
from backframes.plain import is_integer, is_tuple_of
from backframes.stepping import MOST_ROWS, steps_done
from backframes.values import are_arguments, blank, is_object, is_value
from backframes.world import World


class CodeRun:
    """A run of code: its registers and objects, and behind a way back the interpreter."""

    def __init__(self, backs, arguments, *, choice=None):
        check_backs(backs)
        params = backs.code.frozen_blocks()[0][0]
        if not are_arguments(arguments, [kind for _, kind in params]):
            raise InvalidArgument("arguments")
        if choice is not None and not _is_choice(choice, backs.code.points()):
            raise InvalidArgument("choice")
        self.backs = backs
        self._choice = choice
        self._begin({name: value for (name, _), value in zip(params, arguments)}, {}, (0, 0))

    def _begin(self, registers, heap, place):
        self._source = self.backs.code.source
        self._blocks = self.backs.code.frozen_blocks()
        self._registers = registers
        self._world = World(self._source, heap, [])
        self._place = place
        self._visits = {}
        self._done = 0
        self._ending = None
        self._back = None
        self._interpreter = None

    def step(self):
        """Do the next row or end of the code, or the next row behind a way back; returns whether there was one."""
        if self._interpreter is not None:
            return self._interpreter.do_next()
        if self._ending is not None:
            return False
        self._do_next()
        self._done += 1
        return True

    def steps(self, many):
        """Do up to so many rows; returns how many were done."""
        return steps_done(self, many)

    def _do_next(self):
        k, r = self._place
        _, rows, end = self._blocks[k]
        if r == len(rows):
            self._do_end(end)
        elif row_point(rows[r]) is not None:
            self._come_to(rows[r])
        else:
            self._do_row(rows[r])
            self._place = (k, r + 1)

    def _do_end(self, end):
        if end[0] == "return":
            self._ending = ("done", self._registers[end[1]])
            return
        goals = end_goals(end)
        goal, given = goals[-1] if end[0] == "if" and self._registers[end[1]] == 0 else goals[0]
        # All values are taken ahead of the first change, as the goal's parameters may be among what is given.
        values = [self._registers[name] for name in given]
        for (name, _), value in zip(self._blocks[goal][0], values):
            self._registers[name] = value
        self._place = (goal, 0)

    def _do_row(self, row):
        if row[0] == "call":
            self._registers[row[1]] = self._called(row)
        else:
            self._world.do_row(row, self._registers)

    def _called(self, row):
        """The result of a call, which the interpreter runs to its end; nothing has changed if it fails."""
        arguments = [self._registers[name] for name in row[3]]
        stack = [opened_frame(self._source.function_at(row[2]), arguments)]
        self._world.begin_trial()
        try:
            ending = _run_to_end(Interpreter(self._source, self._world, stack))
        except LimitExceeded:
            self._world.take_back()
            raise
        self._world.end_trial()
        return ending[1]

    def _come_to(self, row):
        """Go back at a point, or pass it."""
        point = row_point(row)
        visit = self.visit()
        refused = row[0] == "guard" and self._registers[row[1]] == 0
        if refused or self._choice == (point, visit):
            self._go_back(point, visit)
            return
        self._visits[point] = visit + 1
        self._place = (self._place[0], self._place[1] + 1)

    def point(self):
        """The point of the guard or look that is next; None anywhere else."""
        if self.place() is None:
            return None
        k, r = self._place
        rows = self._blocks[k][1]
        return row_point(rows[r]) if r < len(rows) else None

    def visit(self):
        """The number of the visit to come of the point that is next."""
        return self._visits.get(self.point(), 0)

    def state_at_point(self):
        """The state of the interpreter that going back at the point that is next would build."""
        return built(self.backs.state_at(self.point()), self._registers, self._world.told_heap())

    def go_back(self):
        """Go back at the point that is next, as if it were chosen."""
        self._go_back(self.point(), self.visit())
        self._done += 1

    def _go_back(self, point, visit):
        state = self.state_at_point()
        self._world = World(self._source, state.heap(), self._world.told_log())
        self._interpreter = Interpreter(self._source, self._world, stack_of(self._source, state.frames()))
        self._back = (point, visit)

    def ended(self):
        return self._ending if self._interpreter is None else self._interpreter.ending()

    def went_back(self):
        return self._back

    def place(self):
        """Where the next row or end of the code stands; None behind a way back or at the end."""
        return self._place if self._interpreter is None and self._ending is None else None

    def registers(self):
        return dict(self._registers)

    def heap(self):
        return self._world.told_heap()

    def log(self):
        return self._world.told_log()

    def frames(self):
        return [] if self._interpreter is None else self._interpreter.told_frames()

    def set_variable(self, at, name, value):
        """Set a variable of a frame of the interpreter behind a way back."""
        self._interpreter.set_variable(at, name, value)

    def twin(self):
        """A run that stands alike, and goes on by itself."""
        blanks = [blank(kind) for _, kind in self._blocks[0][0]]
        other = CodeRun(self.backs, blanks, choice=self._choice)
        other._begin(dict(self._registers), {}, self._place)
        other._world = self._world.twin()
        other._visits = dict(self._visits)
        other._done = self._done
        other._ending = self._ending
        other._back = self._back
        if self._interpreter is not None:
            other._interpreter = self._interpreter.twin_in(other._world)
        return other

    def has_rows_left(self):
        """Whether one more row of the code, or of the interpreter behind a way back, is within the limit."""
        done = self._done if self._interpreter is None else self._interpreter.rows_done()
        return done < MOST_ROWS


def _is_choice(thing, points):
    if not is_tuple_of(thing, 2) or not is_integer(thing[0]) or thing[0] not in points:
        return False
    return is_integer(thing[1]) and thing[1] >= 0


def _run_to_end(interpreter):
    """What the outermost frame of an interpreter returns with its first rows."""
    while interpreter.ending() is None:
        if interpreter.rows_done() == MOST_ROWS:
            raise LimitExceeded(MOST_ROWS)
        interpreter.do_next()
    return interpreter.ending()


def ridden(backs, arguments, *, choice=None):
    """The result, the log and the way back of a whole run."""
    return rode(CodeRun(backs, arguments, choice=choice))


def rode(run):
    """The result, the log and the way back of a run that is gone through to its end."""
    while run.ended() is None:
        if not run.has_rows_left():
            raise LimitExceeded(MOST_ROWS)
        run.step()
    return (run.ended(), run.log(), run.went_back())


def run_from(backs, point, registers, heap, *, choice=None):
    """A run that goes on behind a point."""
    check_backs(backs)
    k, r = backs.code.place(point)
    kinds = backs.code.kinds()
    if not _are_registers(registers, kinds):
        raise InvalidArgument("registers")
    check_heap(backs.code.source, heap, [])
    if not all([not is_object(value) or value[1] in heap for value in registers.values()]):
        raise InvalidArgument("registers")
    blanks = [blank(kind) for _, kind in backs.code.frozen_blocks()[0][0]]
    run = CodeRun(backs, blanks, choice=choice)
    held = {name: registers.get(name, blank(kinds[name])) for name in kinds}
    run._begin(held, heap, (k, r + 1))
    return run


def _are_registers(thing, kinds):
    if not isinstance(thing, dict):
        return False
    return all([name in kinds and is_value(thing[name], kinds[name]) for name in thing])
