"""What must be kept for the frame state of one point of code."""

from backframes.code import Code
from backframes.errors import InvalidArgument, InvalidCode
from backframes.frames import check_backs
from backframes.plain import is_integer_in
from backframes.registers import origins, used_for_itself, with_origins
from backframes.restating import restated_over
from backframes.wants import LEAST_WEIGHT, Wants

GREATEST_WEIGHT = 1000


def _wants_at(backs, point):
    """What the frame state of a point wants besides what is live there."""
    check_backs(backs)
    state = backs.state_at(point)
    living = backs.code.living(point)
    wishes = [name for name in state.registers() if name not in living]
    return Wants(backs.code.usable(point), backs.code.again_rows(), living, wishes)


def live(code, point):
    """The sorted list of the registers that are read behind a point before they are made anew."""
    if not isinstance(code, Code):
        raise InvalidCode("code", None)
    return code.living(point)


def serves(backs, point, registers):
    """Whether all that is wanted at a point can be computed from these registers and live ones."""
    wants = _wants_at(backs, point)
    if not wants.are_registers(registers):
        raise InvalidArgument("registers")
    return wants.are_served(registers)


def least_kept(backs, point, *, weights=None):
    """The least cost of registers that serve a point, and the set that comes last of those with this cost."""
    cut = _weighed_cut(backs, point, weights)
    return (cut.cost(), cut.near_goals())


def farthest_kept(backs, point, *, weights=None):
    """The least cost of registers that serve a point, and the set that comes first of those with this cost."""
    cut = _weighed_cut(backs, point, weights)
    return (cut.cost(), cut.near_leaves())


def _weighed_cut(backs, point, weights):
    wants = _wants_at(backs, point)
    if weights is not None and not _are_weights(backs.code.kinds(), weights):
        raise InvalidArgument("weights")
    return wants.cut({} if weights is None else weights)


def _are_weights(names, thing):
    if not isinstance(thing, dict):
        return False
    for name in thing:
        if name not in names or not is_integer_in(thing[name], LEAST_WEIGHT, GREATEST_WEIGHT):
            return False
    return True


def kept_paths(backs, point):
    """A list of paths that shows that no fewer registers serve a point."""
    return _wants_at(backs, point).cut({}).paths()


def shows(backs, point, paths):
    """Whether a thing is a list of paths at a point, without a register twice in all of them."""
    wants = _wants_at(backs, point)
    if not isinstance(paths, list) or not all([wants.is_path(path) for path in paths]):
        return False
    met = {}
    for path in paths:
        for name in path:
            if name in met:
                return False
            met[name] = True
    return True


def restated(backs, point, registers):
    """The frame state of a point that is made of these registers and live ones alone."""
    if not serves(backs, point, registers):
        raise InvalidArgument("registers")
    kept = {name: True for name in registers + backs.code.living(point)}
    again = backs.code.again_rows()
    rows = {name: again[name] for name in again if name not in kept}
    return restated_over(backs.state_at(point), rows)


def made_for(backs):
    """A dict that tells of all registers whether code needs them, or points do, or nothing."""
    check_backs(backs)
    come = origins(backs.code)
    for_code = with_origins(used_for_itself(backs.code), come)
    asked = [name for state in backs.states() for name in state.registers()]
    for_points = with_origins(asked, come)
    words = {}
    for name in come:
        words[name] = "points" if name in for_points else "nothing"
        if name in for_code:
            words[name] = "code"
    return words
