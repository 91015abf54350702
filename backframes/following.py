"""The interpreter that follows code on a way, with the same terms and facts and a heap of its own."""

from backframes.goneways import registers_at
from backframes.interpreter import Frame
from backframes.termheaps import TermHeap
from backframes.termrows import blank_objects, blank_term, do_term_row, fill_objects, recipe_term

MOST_ROWS = 200


class Follower:
    """Frames over terms, which go on row by row as long as their events are those of the code."""

    def __init__(self, backs, start, way):
        self._source = backs.code.source
        self._way = way
        self._terms = way.terms
        self.heap = TermHeap(way.terms, way.facts, self._source, "source")
        self.rows = 0
        registers = registers_at(backs, start, way.terms, self.heap)
        if start is None:
            params = [registers[name] for name, _ in backs.code.frozen_blocks()[0][0]]
            self._frames = [self._opened(backs.code.owner(), params)]
        else:
            self._frames = self._built(backs.state_at(start), registers)

    def _opened(self, name, values):
        function = self._source.function_at(name)
        variables = self._blanks(function)
        for (param, _), value in zip(function.params, values):
            variables[param] = value
        return Frame(function, 0, variables)

    def _blanks(self, function):
        kinds = function.variables
        return {name: blank_term(self._terms, kinds[name]) for name in kinds}

    def _built(self, state, registers):
        """The frames of a frame state, by the registers at its point."""
        told = state.unmade()
        unmade = blank_objects(self.heap, told)
        fill_objects(self._terms, self.heap, told, registers, unmade)
        frames = []
        for name, row, recipes in state.frames():
            function = self._source.function_at(name)
            variables = self._blanks(function)
            for variable in recipes:
                variables[variable] = recipe_term(self._terms, self.heap, recipes[variable], registers, unmade)
            frames.append(Frame(function, row, variables))
        return frames

    def value_of(self, at, variable):
        """The term of a variable in a frame."""
        return self._frames[at].variables[variable]

    def stands_at(self, places):
        """Whether the frames stand at rows of functions, tuples (function, row), and all events have been done."""
        if [(frame.function.name, frame.row) for frame in self._frames] != places:
            return False
        return self.heap.many_events() == self._way.heap.many_events()

    def is_at_end(self):
        """Whether the return of the outermost frame is next."""
        return len(self._frames) == 1 and self._next_row()[0] == "return"

    def ending_word(self):
        """What the return of the outermost frame tells on a way to a return."""
        many = self.heap.many_events() + 1
        self.heap.leave([self._frames[0].variables[self._next_row()[1]]])
        if many < self._way.heap.many_events():
            return "events"
        return "right" if self._fits_last(self.heap) else "state"

    def _next_row(self):
        frame = self._frames[-1]
        return frame.function.body[frame.row]

    def step(self):
        """Do the next row, which is not the return of the outermost frame; returns the word that ends it, or None."""
        if self.rows == MOST_ROWS:
            return "far"
        self.rows += 1
        row = self._next_row()
        frame = self._frames[-1]
        if row[0] == "call":
            self._call(frame, row)
        elif row[0] == "return":
            self._return(row)
        elif row[0] == "jump":
            frame.row = row[1]
        elif row[0] == "if":
            return self._choose(frame, row)
        else:
            many = self.heap.many_events()
            do_term_row(self._terms, self.heap, row, frame.variables)
            frame.row += 1
            if self.heap.many_events() > many and not self._fits_last(self.heap):
                return "events"
        return None

    def _choose(self, frame, row):
        word = self._way.facts.zero(frame.variables[row[1]])
        if word == "open":
            return "open"
        frame.row = row[2] if word == "zero" else frame.row + 1
        return None

    def _call(self, frame, row):
        """Do a call as one event if it is just the next one of the code; otherwise enter the function."""
        values = [frame.variables[name] for name in row[3]]
        event = self._way.heap.event_at(self.heap.many_events())
        if event is not None and event[0] == "call" and event[1] == row[2]:
            heap = self.heap.twin()
            result = heap.called(row[2], values)
            if self._fits_last(heap):
                self.heap = heap
                frame.variables[row[1]] = result
                frame.row += 1
                return
        self._frames.append(self._opened(row[2], values))

    def _return(self, row):
        value = self._frames.pop().variables[row[1]]
        caller = self._frames[-1]
        caller.variables[caller.function.body[caller.row][1]] = value
        caller.row += 1

    def _fits_last(self, heap):
        """Whether the last event of a heap is the one with its number of the code."""
        at = heap.many_events() - 1
        event = self._way.heap.event_at(at)
        return event is not None and self._are_same(heap.event_at(at), event)

    def _are_same(self, one, other):
        """Whether two parts of events are the same by what is known."""
        if isinstance(one, (list, tuple)):
            if not isinstance(other, (list, tuple)) or len(one) != len(other):
                return False
            return all([self._are_same(part, other_part) for part, other_part in zip(one, other)])
        if isinstance(one, str) or isinstance(other, str):
            return isinstance(one, str) and isinstance(other, str) and one == other
        return self._are_same_terms(one, other)

    def _are_same_terms(self, one, other):
        # What is told of nil when it is seen is None.
        one = self._terms.nil() if one is None else one
        other = self._terms.nil() if other is None else other
        if self._terms.kind(one) != self._terms.kind(other):
            return False
        if self._terms.kind(one) == "object":
            return self._way.facts.like(one, other) == "same"
        return self._way.facts.zero(self._terms.made("sub", one, other)) == "zero"
