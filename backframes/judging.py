"""The judge: whether the interpreter comes from the frame state where a way begins to that where it ends."""

from backframes.following import Follower
from backframes.frames import check_backs
from backframes.goneways import gone_way
from backframes.holding import Holding
from backframes.ways import rows_on, ways


def verdict(backs, start, turns):
    """The word for a way, and how many rows the interpreter does on it if it is right."""
    check_backs(backs)
    rows_on(backs.code, start, turns)
    points = [point for taken, point in ways(backs.code, start) if taken == turns]
    return _verdict_on(backs, start, turns, points[0])


def _verdict_on(backs, start, turns, point):
    question = ("verdict", start, turns)
    if backs.answer(question) is None:
        backs.note_answer(question, _found_verdict(backs, start, turns, point))
    return backs.answer(question)


def _found_verdict(backs, start, turns, point):
    """The verdict on a way to a point, or to a return for None."""
    way = gone_way(backs, start, turns)
    if way is None:
        return ("impossible", None)
    follower = Follower(backs, start, way)
    if point is None:
        word = _word_to_return(follower)
    else:
        word = _word_to_point(follower, Holding(backs, backs.state_at(point), way))
    return (word, follower.rows if word == "right" else None)


def _word_to_return(follower):
    word = None
    while word is None and not follower.is_at_end():
        word = follower.step()
    return follower.ending_word() if word is None else word


def _word_to_point(follower, holding):
    fits = holding.is_fit()
    was_there = False
    word = None
    while word is None:
        if follower.stands_at(holding.places):
            if fits and holding.are_held(follower, holding.pairs(follower)):
                return "right"
            was_there = True
        word = "frames" if follower.is_at_end() else follower.step()
    return "state" if was_there else word


def judge(backs):
    """The first way on which the frame states are wrong, or points that go around without a row, or ("right",)."""
    check_backs(backs)
    if backs.answer("judge") is None:
        backs.note_answer("judge", _judged(backs, all_ways(backs)))
    return _told_again(backs.answer("judge"))


def all_ways(backs):
    """The list of all ways of code in the order of the judge, tuples (start, turns, point)."""
    starts = [None, *backs.code.points()]
    return [(start, turns, point) for start in starts for turns, point in ways(backs.code, start)]


def _judged(backs, found):
    goals = {point: [] for point in backs.code.points()}
    for start, turns, point in found:
        word, rows = _verdict_on(backs, start, turns, point)
        if word not in ("right", "impossible"):
            return ("wrong", start, turns, word)
        if rows == 0 and start is not None and point is not None:
            goals[start].append(point)
    around = [point for point in goals if _comes_back(point, goals)]
    return ("circle", around) if len(around) > 0 else ("right",)


def _told_again(answer):
    """An answer with a new list of points."""
    return (answer[0], list(answer[1])) if answer[0] == "circle" else answer


def _comes_back(point, goals):
    """Whether goals lead from a point, one after another, back to itself."""
    met = {}
    waiting = list(goals[point])
    while waiting:
        other = waiting.pop()
        if other not in met:
            met[other] = True
            waiting.extend(goals[other])
    return point in met
