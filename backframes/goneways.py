"""Ways of code that are gone with terms: what is known of them, and what the code has done at their end."""

from backframes.codeforms import end_goals
from backframes.facts import Facts
from backframes.rowforms import row_reads
from backframes.termheaps import TermHeap
from backframes.termrows import blank_objects, do_term_row, fill_objects, operated_term, recipe_term
from backframes.terms import Terms
from backframes.ways import rows_on

MOST_TIMES = 10
# Results of calls, and objects that got out, may have other names when a way is gone again.
BARRED = ("call", "out")


class GoneWay:
    """A way through code with terms, as far as it has been gone."""

    def __init__(self, backs, start, facts, terms):
        self.terms = terms
        self.facts = facts
        self.heap = TermHeap(terms, facts, backs.code.source, "code")
        self.registers = registers_at(backs, start, terms, self.heap)
        self._blocks = backs.code.frozen_blocks()

    def takes_start(self, backs, start):
        """Note what is known where the way begins; returns whether it can be."""
        if start is None:
            return True
        k, r = backs.code.place(start)
        row = self._blocks[k][1][r]
        if row[0] == "guard" and not self.facts.assume(self.registers[row[1]], False):
            return False
        for word, recipe in backs.state_at(start).claims():
            if not self.facts.assume(self.told(recipe), word == "zero"):
                return False
        return True

    def told(self, recipe):
        """The term of a recipe without unmade objects."""
        return recipe_term(self.terms, self.heap, recipe, self.registers, {})

    def goes(self, rows, turns):
        """Do the rows of a way; returns whether it can be gone."""
        asked = 0
        for k, r in rows:
            _, body, end = self._blocks[k]
            if r < len(body):
                self._do_row(body[r])
                continue
            if end[0] == "return":
                self.heap.leave([self.registers[end[1]]])
                continue
            turn = 0
            if end[0] == "if":
                turn = turns[asked]
                asked += 1
                if not self.facts.assume(self.registers[end[1]], turn == 1):
                    return False
            goal, given = end_goals(end)[turn]
            self._go_to(goal, given)
        return True

    def _do_row(self, row):
        if row[0] not in ("guard", "look"):
            do_term_row(self.terms, self.heap, row, self.registers)

    def _go_to(self, goal, given):
        values = [self.registers[name] for name in given]
        for (name, _), value in zip(self._blocks[goal][0], values):
            self.registers[name] = value


def gone_way(backs, start, turns):
    """A way that has been gone with all that is known at its end; None if it is impossible.

    It is noted with all of a frame state on which it depends, as it may be asked for again with others.
    """
    state = None if start is None else backs.state_at(start)
    told = None if state is None else (state.own(), state.claims())
    noted = backs.code.noted_gone((start, turns))
    if noted is None or noted[0] != told:
        noted = (told, _gone_to_end(backs, start, turns))
        backs.code.note_gone((start, turns), noted)
    return noted[1]


def _gone_to_end(backs, start, turns):
    """The way, gone again and again until nothing new is known."""
    rows = rows_on(backs.code, start, turns)
    known = Facts(Terms())
    way = _gone_once(backs, start, turns, rows, known)
    for _ in range(MOST_TIMES):
        told = None if way is None else way.facts.restricted(BARRED)
        if told is None or told.know_as(known):
            return way
        known = told
        way = _gone_once(backs, start, turns, rows, known)
    return way


def _gone_once(backs, start, turns, rows, known):
    """The way, gone with facts that are known at its beginning; None if it is impossible."""
    way = GoneWay(backs, start, known.twin(), known.terms)
    return way if way.takes_start(backs, start) and way.goes(rows, turns) else None


def registers_at(backs, start, terms, heap):
    """A dict with the terms of the registers where a way begins, their objects being those of a heap."""
    code = backs.code
    kinds = code.kinds()
    if start is None:
        return {name: terms.unknown(name, kind) for name, kind in code.frozen_blocks()[0][0]}
    own = backs.state_at(start).own()
    objects = blank_objects(heap, own)
    registers = dict(objects)
    rows = code.again_rows()
    for name in code.usable(start):
        if name not in rows and name not in registers:
            registers[name] = terms.unknown(name, kinds[name])
    for name in code.usable(start):
        _compute(name, rows, registers, terms, heap)
    fill_objects(terms, heap, own, registers, objects)
    return registers


def _compute(name, rows, registers, terms, heap):
    """Give a register that is computed again its term; those that its row uses have theirs first."""
    if name in registers:
        return
    row = rows[name]
    for used in row_reads(row):
        _compute(used, rows, registers, terms, heap)
    if row[0] in ("number", "nil"):
        registers[name] = terms.constant(row[2]) if row[0] == "number" else terms.nil()
    else:
        one, other = row[2:]
        registers[name] = operated_term(terms, heap, row[0], registers[one], registers[other])
