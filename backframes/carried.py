"""What must be carried from point to point, if code itself may compute registers again, too."""

from backframes.codeforms import end_uses, row_point
from backframes.errors import InvalidArgument
from backframes.frames import Backs, check_backs
from backframes.plain import is_integer, is_integer_in
from backframes.registers import with_origins
from backframes.restating import restated_over
from backframes.rowforms import row_reads, row_sets
from backframes.wants import Wants
from backframes.ways import rows_on

MOST_VISITS = 10 ** 9


def to_come(backs, point):
    """The sorted list of the registers that are read at a point or behind it before they are made anew."""
    check_backs(backs)
    return backs.to_come(point)


def _wants_at(backs, point):
    """What is to come at a point, where no register is there anyhow."""
    check_backs(backs)
    coming = backs.to_come(point)
    return Wants(backs.code.usable(point), backs.code.again_rows(), [], coming)


def carries(backs, point, registers):
    """Whether all that is to come at a point can be computed from these registers."""
    wants = _wants_at(backs, point)
    if not wants.are_registers(registers):
        raise InvalidArgument("registers")
    return wants.are_served(registers)


def carried(backs, point):
    """The fewest registers that carry a point, of such sets the one that comes last."""
    return _wants_at(backs, point).cut({}).near_goals()


def carried_paths(backs, point):
    """A list of paths that shows that no fewer registers carry a point."""
    return _wants_at(backs, point).cut({}).paths()


def again(backs, start, turns):
    """The sorted list of the registers that must be computed again on a way."""
    check_backs(backs)
    passed = rows_on(backs.code, start, turns)
    there = {name: True for name in _carried_to(backs, start)}
    made = {}
    asked = _used_ahead(backs.code.frozen_blocks(), passed, made)
    asked.extend([name for name in _carried_at_end(backs, passed[-1]) if name not in made])
    rows = backs.code.again_rows()
    come = {name: [] for name in backs.code.kinds()}
    for name in rows:
        come[name] = [used for used in row_reads(rows[name]) if used not in there]
    return sorted(list(with_origins([name for name in asked if name not in there], come)))


def _carried_to(backs, start):
    """The list of the registers that are there where a way begins."""
    if start is None:
        return [name for name, _ in backs.code.frozen_blocks()[0][0]]
    return carried(backs, start)


def _carried_at_end(backs, place):
    """The list of the registers that are carried at the last row of a way."""
    k, r = place
    rows = backs.code.frozen_blocks()[k][1]
    return carried(backs, row_point(rows[r])) if r < len(rows) else []


def _used_ahead(blocks, passed, made):
    """The list of the registers that are used on a way ahead of their making.

    made is an empty dict, to which all registers are added that are made on the way.
    """
    used = []
    for at, (k, r) in enumerate(passed):
        if r == 0 and at > 0:
            made.update({name: True for name, _ in blocks[k][0]})
        row = blocks[k][1][r] if r < len(blocks[k][1]) else None
        reads = end_uses(blocks[k][2]) if row is None else row_reads(row)
        used.extend([name for name in reads if name not in made])
        if row is not None:
            made[row_sets(row)] = True
    return used


def thinned(backs):
    """The same code with frame states that are made of the carried registers alone."""
    check_backs(backs)
    rows = backs.code.again_rows()
    thin = []
    for state in backs.states():
        kept = {name: True for name in carried(backs, state.point)}
        thin.append(restated_over(state, {name: rows[name] for name in rows if name not in kept}))
    return Backs(backs.code, thin)


def total(backs, visits):
    """How many registers are carried at all visits of points together."""
    check_backs(backs)
    if not _are_visits(visits, backs.code.points()):
        raise InvalidArgument("visits")
    return sum([len(carried(backs, point)) * visits[point] for point in visits])


def _are_visits(thing, points):
    if not isinstance(thing, dict) or len(thing) != len(points):
        return False
    for point in thing:
        if not is_integer(point) or point not in points or not is_integer_in(thing[point], 0, MOST_VISITS):
            return False
    return True
