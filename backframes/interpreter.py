"""The interpreter: frames that do the rows of a source, one by one."""

from backframes.errors import LimitExceeded
from backframes.values import blank

MOST_FRAMES = 50


class Frame:
    """A function that is run, the row that is next, and its variables."""

    def __init__(self, function, row, variables):
        self.function = function
        self.row = row
        self.variables = variables


def opened_frame(function, arguments):
    """The frame of a function that begins with a list of arguments."""
    variables = {name: blank(function.variables[name]) for name in function.variables}
    for (name, _), value in zip(function.params, arguments):
        variables[name] = value
    return Frame(function, 0, variables)


def stack_of(source, frames):
    """The list of the frames that are told as tuples (function, row, variables)."""
    return [Frame(source.function_at(name), row, variables) for name, row, variables in frames]


class Interpreter:
    """A stack of frames over a world of objects."""

    def __init__(self, source, world, stack):
        self._source = source
        self._world = world
        self._stack = stack
        self._done = 0
        self._ending = None

    def do_next(self):
        """Do the next row; returns whether there was one."""
        if len(self._stack) == 0:
            return False
        frame = self._stack[-1]
        self._do_row(frame, frame.function.body[frame.row])
        self._done += 1
        return True

    def _do_row(self, frame, row):
        word = row[0]
        if word == "call":
            self._call(frame, row)
        elif word == "return":
            self._return(frame.variables[row[1]])
        elif word == "jump":
            frame.row = row[1]
        elif word == "if":
            frame.row = row[2] if frame.variables[row[1]] == 0 else frame.row + 1
        else:
            self._world.do_row(row, frame.variables)
            frame.row += 1

    def _call(self, frame, row):
        if len(self._stack) == MOST_FRAMES:
            raise LimitExceeded(MOST_FRAMES)
        arguments = [frame.variables[name] for name in row[3]]
        self._stack.append(opened_frame(self._source.function_at(row[2]), arguments))

    def _return(self, value):
        self._stack.pop()
        if len(self._stack) == 0:
            self._ending = ("done", value)
            return
        caller = self._stack[-1]
        caller.variables[caller.function.body[caller.row][1]] = value
        caller.row += 1

    def rows_done(self):
        return self._done

    def ending(self):
        """What the return of the outermost frame gave, or None ahead of it."""
        return self._ending

    def told_frames(self):
        return [(frame.function.name, frame.row, dict(frame.variables)) for frame in self._stack]

    def set_variable(self, at, name, value):
        self._stack[at].variables[name] = value

    def twin_in(self, world):
        """An interpreter that stands alike in a twin of its world, and goes on by itself."""
        other = Interpreter(self._source, world, stack_of(self._source, self.told_frames()))
        other._done = self._done
        other._ending = self._ending
        return other
