"""The machine that runs a function of a source row by row, and moments of its runs."""

from backframes.errors import InvalidArgument, InvalidSource, InvalidState, LimitExceeded
from backframes.interpreter import MOST_FRAMES, Interpreter, opened_frame, stack_of
from backframes.moments import are_stacked, check_heap
from backframes.source import Source
from backframes.stepping import MOST_ROWS, steps_done
from backframes.values import are_arguments, blank, copied_heap, holds_values
from backframes.world import World


class Machine:
    """A run of a function of a source."""

    def __init__(self, source, name, arguments):
        if not isinstance(source, Source):
            raise InvalidSource("source", None)
        function = source.function_at(name)
        if function is None:
            raise InvalidArgument("name")
        if not are_arguments(arguments, [kind for _, kind in function.params]):
            raise InvalidArgument("arguments")
        self._source = source
        self._begin([opened_frame(function, arguments)], {})

    def _begin(self, stack, heap):
        self._world = World(self._source, heap, [])
        self._interpreter = Interpreter(self._source, self._world, stack)

    def _begin_from(self, state):
        self._begin(stack_of(self._source, state.frames()), state.heap())

    def step(self):
        """Do the next row; returns whether there was one."""
        return self._interpreter.do_next()

    def steps(self, many):
        """Do up to so many rows; returns how many were done."""
        return steps_done(self, many)

    def ended(self):
        return self._interpreter.ending()

    def frames(self):
        return self._interpreter.told_frames()

    def heap(self):
        return self._world.told_heap()

    def log(self):
        return self._world.told_log()

    def rows(self):
        return self._interpreter.rows_done()

    def state(self):
        return State(self._source, self.frames(), self.heap())


class State:
    """A moment of a run: the frames that stand open, and the objects."""

    def __init__(self, source, frames, heap):
        if not isinstance(source, Source):
            raise InvalidSource("source", None)
        if not are_stacked(source, frames, MOST_FRAMES):
            raise InvalidState("frames")
        held = []
        for name, _, variables in frames:
            if not holds_values(variables, source.function_at(name).variables):
                raise InvalidState("frames")
            held.extend(list(variables.values()))
        check_heap(source, heap, held)
        self.source = source
        self._frames = [(name, row, dict(variables)) for name, row, variables in frames]
        self._heap = copied_heap(heap)

    def frames(self):
        return [(name, row, dict(variables)) for name, row, variables in self._frames]

    def heap(self):
        return copied_heap(self._heap)

    def __eq__(self, other):
        return (
            isinstance(other, State)
            and self.source == other.source
            and self._frames == other._frames
            and self._heap == other._heap
        )


def going_on(state):
    """A machine that goes on from a state, with an empty log."""
    if not isinstance(state, State):
        raise InvalidArgument("state")
    name = state.frames()[0][0]
    kinds = [kind for _, kind in state.source.function_at(name).params]
    machine = Machine(state.source, name, [blank(kind) for kind in kinds])
    machine._begin_from(state)
    return machine


def outcome(source, name, arguments):
    """The result and the log of a whole run."""
    return finished(Machine(source, name, arguments))


def finished(machine):
    """The result and the log of a machine that is run to its end."""
    while machine.ended() is None:
        if machine.rows() >= MOST_ROWS:
            raise LimitExceeded(MOST_ROWS)
        machine.step()
    return (machine.ended(), machine.log())
