"""Frame states that are mended: recipes that are right on all ways."""

from backframes.arrivals import arrivals_at
from backframes.candidates import first_telling
from backframes.errors import InvalidArgument
from backframes.frames import Backs, FrameState, check_backs
from backframes.judging import judge
from backframes.plain import is_integer_in
from backframes.recipes import recipe_kind

MOST_TIMES = 12


def comes(backs, point):
    """The list of the ways that lead to a point, with the rows of the interpreter to its first visit there."""
    check_backs(backs)
    return [(arrival.start, arrival.turns, arrival.rows) for arrival in arrivals_at(backs, point)]


def least_recipe(backs, point, frame, variable):
    """The first recipe that tells a variable on all ways to a point, or None."""
    check_backs(backs)
    frames = backs.state_at(point).frames()
    if not is_integer_in(frame, 0, len(frames) - 1):
        raise InvalidArgument("frame")
    kinds = backs.code.source.function_at(frames[frame][0]).variables
    if not isinstance(variable, str) or variable not in kinds:
        raise InvalidArgument("variable")
    arrivals = arrivals_at(backs, point)
    if any([arrival.rows is None for arrival in arrivals]):
        return None
    return first_telling(backs.state_at(point), arrivals, frame, variable)


def mended(backs):
    """The same code with frame states that the judge calls right, or None."""
    check_backs(backs)
    times = 0
    while judge(backs) != ("right",):
        states = [_mended_state(backs, state) for state in backs.states()]
        if times == MOST_TIMES or states == backs.states():
            return None
        backs = Backs(backs.code, states)
        times += 1
    return backs


def _mended_state(backs, state):
    """A frame state whose recipes that do not tell their variables are replaced as far as they can be."""
    arrivals = [arrival for arrival in arrivals_at(backs, state.point) if arrival.rows is not None]
    frames = state.frames()
    for at, (_, _, recipes) in enumerate(frames):
        for variable in list(recipes):
            if not all([arrival.tells(at, variable, recipes[variable]) for arrival in arrivals]):
                better = first_telling(state, arrivals, at, variable)
                recipes[variable] = recipes[variable] if better is None else better
    return FrameState(
        state.code, state.point, frames, unmade=state.unmade(), own=state.own(), claims=state.claims()
    )


def known_range(backs, point, recipe):
    """The least and the greatest value that a recipe is known to have on all ways to a point; None without one."""
    check_backs(backs)
    state = backs.state_at(point)
    made = backs.code.kinds()
    kinds = {name: made[name] for name in backs.code.usable(point)}
    if recipe_kind(recipe, kinds, []) != "number":
        raise InvalidArgument("recipe")
    ends = [arrival.way.facts.ends(arrival.told(recipe)) for arrival in arrivals_at(backs, state.point)]
    if len(ends) == 0:
        return None
    leasts = [least for least, _ in ends]
    greatests = [greatest for _, greatest in ends]
    return (None if None in leasts else min(leasts), None if None in greatests else max(greatests))
