"""What must be kept for the frame state of one point of code."""

from backframes.code import Code
from backframes.cuts import Cut
from backframes.errors import InvalidArgument, InvalidCode, LimitExceeded
from backframes.frames import Backs, FrameState
from backframes.plain import is_integer_in, is_list_of_names
from backframes.recipes import DEEPEST, recipe_depth, recipe_over_rows
from backframes.registers import can_be_told, origins, read_behind, rows_again, used_for_itself, with_origins
from backframes.rowforms import row_reads

LEAST_WEIGHT = 1
GREATEST_WEIGHT = 1000


class Wants:
    """What is wanted at a point, and what it can be computed again from."""

    def __init__(self, backs, point):
        if not isinstance(backs, Backs):
            raise InvalidCode("backs", None)
        state = backs.state_at(point)
        self.standing = backs.code.usable(point)
        self.again = rows_again(backs.code)
        self.living = read_behind(backs.code, point)
        self.wishes = [name for name in state.registers() if name not in self.living]

    def are_served(self, names):
        kept = {name: True for name in names + self.living}
        return can_be_told(self.wishes, kept, self.again)

    def uses(self, name):
        """The list of the registers without live ones that are needed to compute one again."""
        if name not in self.again:
            return []
        return [used for used in row_reads(self.again[name]) if used not in self.living]

    def cut(self, weights):
        """The least cuts between the leaves and the registers that are wanted."""
        needed = with_origins(self.wishes, {name: self.uses(name) for name in self.standing})
        steps = {name: [] for name in needed}
        for name in needed:
            for used in self.uses(name):
                steps[used].append(name)
        leaves = [name for name in needed if name not in self.again]
        costs = {name: weights.get(name, LEAST_WEIGHT) for name in needed}
        return Cut(costs, steps, leaves, self.wishes)

    def is_path(self, thing):
        if not is_list_of_names(thing) or len(thing) == 0 or thing[-1] not in self.wishes:
            return False
        steps = [one in self.uses(other) for one, other in zip(thing, thing[1:])]
        return thing[0] not in self.again and all(steps)


def live(code, point):
    """The sorted list of the registers that are read behind a point before they are made anew."""
    if not isinstance(code, Code):
        raise InvalidCode("code", None)
    return read_behind(code, point)


def serves(backs, point, registers):
    """Whether all that is wanted at a point can be computed from these registers and live ones."""
    wants = Wants(backs, point)
    if not is_list_of_names(registers) or not all([name in wants.standing for name in registers]):
        raise InvalidArgument("registers")
    return wants.are_served(registers)


def least_kept(backs, point, *, weights=None):
    """The least cost of registers that serve a point, and the set that comes last of those with this cost."""
    cut = _weighed_cut(backs, point, weights)
    return (cut.cost(), cut.near_goals())


def farthest_kept(backs, point, *, weights=None):
    """The least cost of registers that serve a point, and the set that comes first of those with this cost."""
    cut = _weighed_cut(backs, point, weights)
    return (cut.cost(), cut.near_leaves())


def _weighed_cut(backs, point, weights):
    wants = Wants(backs, point)
    if weights is not None and not _are_weights(backs.code.kinds(), weights):
        raise InvalidArgument("weights")
    return wants.cut({} if weights is None else weights)


def _are_weights(names, thing):
    if not isinstance(thing, dict):
        return False
    for name in thing:
        if name not in names or not is_integer_in(thing[name], LEAST_WEIGHT, GREATEST_WEIGHT):
            return False
    return True


def kept_paths(backs, point):
    """A list of paths that shows that no fewer registers serve a point."""
    return Wants(backs, point).cut({}).paths()


def shows(backs, point, paths):
    """Whether a thing is a list of paths at a point, without a register twice in all of them."""
    wants = Wants(backs, point)
    if not isinstance(paths, list) or not all([wants.is_path(path) for path in paths]):
        return False
    met = {}
    for path in paths:
        for name in path:
            if name in met:
                return False
            met[name] = True
    return True


def restated(backs, point, registers):
    """The frame state of a point that is made of these registers and live ones alone."""
    if not serves(backs, point, registers):
        raise InvalidArgument("registers")
    state = backs.state_at(point)
    living = read_behind(backs.code, point)
    again = rows_again(backs.code)
    rows = {name: again[name] for name in again if name not in registers and name not in living}
    _check_depth(state, rows)
    frames = [(name, row, _over_rows(recipes, rows)) for name, row, recipes in state.frames()]
    told = state.unmade()
    unmade = {k: (told[k][0], _over_rows(told[k][1], rows)) for k in told}
    return FrameState(state.code, point, frames, unmade=unmade, own=state.own(), claims=state.claims())


def _check_depth(state, rows):
    # Every register is looked at once, as recipes may double in size with each row.
    met = {}
    tables = [recipes for _, _, recipes in state.frames()]
    tables.extend([recipes for _, recipes in state.unmade().values()])
    for recipes in tables:
        for name in recipes:
            if recipe_depth(recipes[name], rows, met) > DEEPEST:
                raise LimitExceeded(DEEPEST)


def _over_rows(recipes, rows):
    return {name: recipe_over_rows(recipes[name], rows) for name in recipes}


def made_for(backs):
    """A dict that tells of all registers whether code needs them, or points do, or nothing."""
    if not isinstance(backs, Backs):
        raise InvalidCode("backs", None)
    come = origins(backs.code)
    for_code = with_origins(used_for_itself(backs.code), come)
    asked = [name for state in backs.states() for name in state.registers()]
    for_points = with_origins(asked, come)
    words = {}
    for name in come:
        words[name] = "points" if name in for_points else "nothing"
        if name in for_code:
            words[name] = "code"
    return words
