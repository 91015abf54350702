"""Papers of difference: arguments for which source and code do not tell the same."""

from backframes.errors import CodeError, InvalidNumber, LimitExceeded
from backframes.frames import check_backs
from backframes.heapforms import MOST_OBJECTS
from backframes.heaps import parting_paths
from backframes.machine import Machine, finished
from backframes.plain import is_integer_in, is_tuple_of
from backframes.runs import CodeRun, rode
from backframes.stepping import MOST_ROWS
from backframes.wanted import wanted, wanted_at_call

GREATEST_SIZE = 5
MOST_LISTS = 400
MOST_POINTS = 20


def compared(backs, arguments, *, choice=None):
    """What source and code do not tell alike, or None."""
    run = CodeRun(backs, arguments, choice=choice)
    machine = _source_run(backs, arguments)
    finished(machine)
    rode(run)
    return _difference(machine, run)


def _source_run(backs, arguments):
    return Machine(backs.code.source, backs.code.owner(), arguments)


def _difference(machine, run):
    """What two runs at their ends do not tell alike, or None."""
    log = machine.log()
    other = run.log()
    if log != other:
        same = [one == another for one, another in zip(log, other)]
        return ("log", same.index(False) if False in same else len(same))
    paper = _parting(machine, [machine.ended()[1]], run, [run.ended()[1]])
    return None if paper is None else ("result", paper)


def _parting(machine, values, run, others):
    """The paper that shows that values of two runs are not alike, or None."""
    heap = machine.heap()
    other = run.heap()
    if len(heap) > MOST_OBJECTS or len(other) > MOST_OBJECTS:
        raise LimitExceeded(MOST_OBJECTS)
    return parting_paths(heap, values, other, others)


def landing(backs, arguments, *, choice=None):
    """Where the code goes back, and behind how many rows the run of the source stands alike; None if it does not."""
    run = CodeRun(backs, arguments, choice=choice)
    while run.ended() is None and run.went_back() is None:
        if not run.has_rows_left():
            raise LimitExceeded(MOST_ROWS)
        run.step()
    if run.went_back() is None:
        return None
    machine = _source_run(backs, arguments)
    while not _stand_alike(backs.code.source, machine, run):
        if machine.rows() == MOST_ROWS or not machine.step():
            return (*run.went_back(), None)
    return (*run.went_back(), machine.rows())


def _stand_alike(source, machine, run):
    """Whether the interpreter behind a way back stands alike with the run of the source."""
    frames = machine.frames()
    others = run.frames()
    if [frame[:2] for frame in frames] != [frame[:2] for frame in others] or machine.log() != run.log():
        return False
    return _parting(machine, _wanted_values(source, frames), run, _wanted_values(source, others)) is None


def _wanted_values(source, frames):
    """The list of the values of all variables that are wanted, frame by frame."""
    values = []
    for at, (name, row, variables) in enumerate(frames):
        waits = at < len(frames) - 1
        names = wanted_at_call(source, name, row) if waits else wanted(source, name, row)
        values.extend([variables[variable] for variable in names])
    return values


def is_paper(backs, thing):
    """Whether a thing is a tuple of arguments and a choice for which source and code do not tell the same."""
    check_backs(backs)
    if not is_tuple_of(thing, 2):
        return False
    try:
        return compared(backs, thing[0], choice=thing[1]) is not None
    except CodeError:
        return False


def least_paper(backs, most):
    """The first paper of a box, or None."""
    for arguments in _box(backs, most):
        choices = _choices_of_papers(backs, arguments)
        if len(choices) > 0:
            return (arguments, choices[0])
    return None


def point_papers(backs, most):
    """The list of the points with the first paper of a box whose choice has each, or None."""
    lists = _box(backs, most)
    papers = {point: None for point in backs.code.points()}
    for arguments in lists:
        for choice in _choices_of_papers(backs, arguments):
            if choice is not None and papers[choice[0]] is None:
                papers[choice[0]] = (list(arguments), choice)
    return [(point, papers[point]) for point in papers]


def _box(backs, most):
    """The list of all lists of arguments of a box, in its order."""
    check_backs(backs)
    if not is_integer_in(most, 0, GREATEST_SIZE):
        raise InvalidNumber(most)
    kinds = [kind for _, kind in backs.code.source.function_at(backs.code.owner()).params]
    if _count_of_lists(kinds, most) > MOST_LISTS:
        raise LimitExceeded(MOST_LISTS)
    lists = [[]]
    for kind in kinds:
        span = list(range(-most, most + 1)) if kind == "number" else [None]
        lists = [[*values, value] for values in lists for value in span]
    ranked = sorted([(_size_of(values), values) for values in lists])
    return [values for _, values in ranked]


def _count_of_lists(kinds, most):
    """How many lists of arguments a box has."""
    many = 1
    for kind in kinds:
        if kind == "number":
            many *= 2 * most + 1
    return many


def _size_of(values):
    return sum([abs(value) for value in values if value is not None])


def _choices_of_papers(backs, arguments):
    """The list of the choices of arguments with which source and code do not tell the same."""
    machine = _source_run(backs, arguments)
    try:
        finished(machine)
    except LimitExceeded:
        return []
    run = CodeRun(backs, arguments)
    choices = [None] if _differs(machine, run.twin()) else []
    many = 0
    while run.place() is not None and run.has_rows_left() and many < MOST_POINTS:
        if run.point() is not None:
            many += 1
            if _differs_behind(machine, run.twin()):
                choices.append((run.point(), run.visit()))
        try:
            run.step()
        except LimitExceeded:
            break
    return choices


def _differs(machine, run):
    """Whether a run does not tell the same at its end; one that raises an error shows nothing."""
    try:
        rode(run)
        return _difference(machine, run) is not None
    except LimitExceeded:
        return False


def _differs_behind(machine, run):
    """Whether a run does not tell the same if it goes back at the point that is next."""
    try:
        run.go_back()
    except LimitExceeded:
        return False
    return _differs(machine, run)
