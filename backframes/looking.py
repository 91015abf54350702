"""Looking at code that runs: what can be told of the interpreter without going back, and sessions with a run."""

from backframes.errors import InvalidArgument, InvalidNumber, LimitExceeded
from backframes.frames import check_backs
from backframes.plain import is_integer_in, is_word_tuple
from backframes.runs import CodeRun
from backframes.stepping import MOST_ROWS
from backframes.values import is_object, is_value

MOST_COMMANDS = 30
LENGTHS = {"step": 1, "point": 1, "row": 3, "back": 1, "set": 4}
# Python does not write integers of more than a few thousand figures at once, so they are written in groups.
FIGURES = 60
GROUP = 10 ** 60


def told_frames(run):
    """The frames that can be told of a run without going back."""
    _check_run(run)
    point = run.point()
    if point is None:
        return run.frames()
    told = []
    for frame, (_, _, recipes) in zip(run.state_at_point().frames(), run.backs.state_at(point).frames()):
        name, row, variables = frame
        told.append((name, row, {variable: variables[variable] for variable in variables if variable in recipes}))
    return told


def told_heap(run):
    """The objects that can be told of a run without going back."""
    _check_run(run)
    return run.heap() if run.point() is None else run.state_at_point().heap()


def _check_run(run):
    if not isinstance(run, CodeRun):
        raise InvalidArgument("run")


def left_out(backs, point):
    """The list of the variables that cannot be told at a point, with the numbers of their frames."""
    check_backs(backs)
    left = []
    for at, (name, _, recipes) in enumerate(backs.state_at(point).frames()):
        variables = sorted(list(backs.code.source.function_at(name).variables))
        left.extend([(at, variable) for variable in variables if variable not in recipes])
    return left


def set_variable(run, at, variable, value):
    """Set a variable of a frame; a run that stands at a point goes back there first."""
    _check_run(run)
    at_point = run.point() is not None
    state = run.state_at_point() if at_point else None
    frames = state.frames() if at_point else run.frames()
    if len(frames) == 0:
        raise InvalidArgument("run")
    if not is_integer_in(at, 0, len(frames) - 1):
        raise InvalidNumber(at)
    kinds = run.backs.code.source.function_at(frames[at][0]).variables
    if not isinstance(variable, str) or variable not in kinds:
        raise InvalidArgument("variable")
    heap = state.heap() if at_point else run.heap()
    if not is_value(value, kinds[variable]) or is_object(value) and value[1] not in heap:
        raise InvalidArgument("value")
    if at_point:
        run.go_back()
    run.set_variable(at, variable, value)


def stops_at(backs, name, row):
    """The ascending list of the points that stand at a row of a function."""
    check_backs(backs)
    _check_row(backs, name, row)
    return [state.point for state in backs.states() if state.frames()[-1][:2] == (name, row)]


def _check_row(backs, name, row):
    function = backs.code.source.function_at(name)
    if function is None:
        raise InvalidArgument("name")
    if not function.has_row(row):
        raise InvalidNumber(row)


def first_stop(backs, arguments, name, row):
    """The first point to which a run comes that stands at a row of a function, or None."""
    points = stops_at(backs, name, row)
    run = CodeRun(backs, arguments)
    done = 0
    while run.point() not in points:
        if run.place() is None:
            return None
        if done == MOST_ROWS:
            raise LimitExceeded(MOST_ROWS)
        run.step()
        done += 1
    return run.point()


class Watch:
    """A session with a run of code; its commands can be undone."""

    def __init__(self, backs, arguments):
        self._run = CodeRun(backs, arguments)
        # The commands that were done, with the runs as they were ahead of them.
        self._done = []

    def do(self, command):
        """Do a command; returns where the run stands then."""
        self._check_command(command)
        if len(self._done) == MOST_COMMANDS:
            raise LimitExceeded(MOST_COMMANDS)
        # The run itself stays as it is, for the case that the command fails, and to be undone.
        run = self._run.twin()
        if command[0] == "back":
            if run.point() is None:
                raise InvalidArgument("run")
            run.go_back()
        elif command[0] == "set":
            set_variable(run, command[1], command[2], command[3])
        elif run.ended() is None:
            _go_on(run, command)
        self._done.append((command, self._run))
        self._run = run
        return self.here()

    def _check_command(self, command):
        if not is_word_tuple(command) or LENGTHS.get(command[0]) != len(command):
            raise InvalidArgument("command")
        if command[0] == "row":
            _check_row(self._run.backs, command[1], command[2])

    def undo(self):
        """Undo the last command that was not undone; returns whether there was one."""
        if len(self._done) == 0:
            return False
        self._run = self._done.pop()[1]
        return True

    def commands(self):
        """The list of the commands that were not undone."""
        return [command for command, _ in self._done]

    def here(self):
        """Where the run stands."""
        run = self._run
        if run.ended() is not None:
            return ("ended", run.ended()[1])
        if run.place() is None:
            return ("interpreter", *run.frames()[-1][:2])
        if run.point() is not None:
            return ("point", run.point(), run.visit())
        return ("code", *run.place())

    def frames(self):
        return told_frames(self._run)

    def heap(self):
        return told_heap(self._run)

    def log(self):
        return self._run.log()

    def text(self):
        """What can be told, as a text."""
        told = self.here()
        parts = [_value_text(told[1])] if told[0] == "ended" else [_part_text(part) for part in told[1:]]
        lines = [" ".join([told[0], *parts])]
        for name, row, variables in self.frames():
            lines.append(f"{name} {row}")
            for variable in sorted(list(self._run.backs.code.source.function_at(name).variables)):
                shown = _value_text(variables[variable]) if variable in variables else "?"
                lines.append(f"  {variable} = {shown}")
        for entry in self.log():
            lines.append(" ".join(["log", *[_part_text(part) for part in entry]]))
        return "".join([line + "\n" for line in lines])


def _go_on(run, command):
    """Let a run do the steps of a command, at least one."""
    points = stops_at(run.backs, command[1], command[2]) if command[0] == "row" else []
    run.step()
    done = 1
    while command[0] != "step" and run.ended() is None and not _is_there(run, command, points):
        if done == MOST_ROWS:
            raise LimitExceeded(MOST_ROWS)
        run.step()
        done += 1


def _is_there(run, command, points):
    """Whether a run stands where a command leads; points are those that stand at its row."""
    if run.place() is None:
        return command[0] == "point" or run.frames()[-1][:2] == command[1:]
    return run.point() is not None if command[0] == "point" else run.point() in points


def _value_text(value):
    if is_object(value):
        return f"object {value[1]}"
    return "nil" if value is None else _part_text(value)


def _part_text(part):
    """A word as it is, or the figures of an integer."""
    if isinstance(part, str):
        return part
    sign = "-" if part < 0 else ""
    left, last = divmod(abs(part), GROUP)
    groups = [str(last)]
    while left > 0:
        groups[-1] = groups[-1].zfill(FIGURES)
        left, last = divmod(left, GROUP)
        groups.append(str(last))
    return sign + "".join(groups[::-1])
