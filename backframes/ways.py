"""Ways through code: from a point or the beginning to the next point or a return."""

from backframes.code import Code
from backframes.codeforms import end_goals, row_point
from backframes.errors import InvalidArgument, InvalidCode, LimitExceeded
from backframes.plain import is_integer

MOST_WAYS = 200
MOST_ROWS = 60


def ways(code, start):
    """The list of all ways from a start, tuples of their turns and the point at their end."""
    return [(turns, point) for turns, point, _ in _ways_with_rows(code, start)]


def rows_on(code, start, turns):
    """The list of the tuples (block, row) of all rows that a way passes."""
    found = _ways_with_rows(code, start)
    if isinstance(turns, tuple) and all([is_integer(turn) for turn in turns]):
        for taken, _, rows in found:
            if taken == turns:
                return list(rows)
    raise InvalidArgument("turns")


def _ways_with_rows(code, start):
    """The list of all ways from a start in their order, tuples of their turns, their last point and their rows."""
    if not isinstance(code, Code):
        raise InvalidCode("code", None)
    place = _place_behind(code, start)
    if code.noted_ways(start) is None:
        found = _walked(code.frozen_blocks(), place)
        if max([len(rows) for _, _, rows in found]) > MOST_ROWS:
            raise LimitExceeded(MOST_ROWS)
        ordered = sorted(found, key=_rank)
        code.note_ways(start, tuple([(turns, point, tuple(rows)) for turns, point, rows in ordered]))
    return code.noted_ways(start)


def _rank(way):
    return (len(way[2]), way[0])


def _place_behind(code, start):
    """The place of the first row of the ways from a start."""
    if start is None:
        return (0, 0)
    k, r = code.place(start)
    return (k, r + 1)


def _walked(blocks, place):
    found = []
    waiting = [((), [], place)]
    while waiting:
        turns, rows, (k, r) = waiting.pop()
        stop = _next_stop(blocks[k], r)
        rows = rows + [(k, at) for at in range(r, stop + 1)]
        point = _point_at(blocks[k], stop)
        goals = [] if point is not None else end_goals(blocks[k][2])
        for turn, (goal, _) in enumerate(goals):
            waiting.append(((*turns, turn) if len(goals) > 1 else turns, rows, (goal, 0)))
        if len(goals) == 0:
            found.append((turns, point, rows))
        if len(found) > MOST_WAYS:
            raise LimitExceeded(MOST_WAYS)
    return found


def _next_stop(block, r):
    """The next row of a block from row r on that has a point, or its end, which counts as the row behind the others."""
    for at in range(r, len(block[1])):
        if row_point(block[1][at]) is not None:
            return at
    return len(block[1])


def _point_at(block, at):
    return row_point(block[1][at]) if at < len(block[1]) else None
