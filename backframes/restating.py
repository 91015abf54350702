"""Frame states with other recipes for the same values."""

from backframes.errors import LimitExceeded
from backframes.frames import FrameState
from backframes.recipes import DEEPEST, recipe_depth, recipe_over_rows


def restated_over(state, rows):
    """The frame state in which the registers of a dict of rows are computed again."""
    told = state.unmade()
    tables = [recipes for _, _, recipes in state.frames()]
    tables.extend([recipes for _, recipes in told.values()])
    _check_depth(tables, rows)
    frames = [(name, row, _over_rows(recipes, rows)) for name, row, recipes in state.frames()]
    unmade = {k: (told[k][0], _over_rows(told[k][1], rows)) for k in told}
    return FrameState(state.code, state.point, frames, unmade=unmade, own=state.own(), claims=state.claims())


def _check_depth(tables, rows):
    # Every register is looked at once, as recipes may double in size with each row.
    met = {}
    for recipes in tables:
        for name in recipes:
            if recipe_depth(recipes[name], rows, met) > DEEPEST:
                raise LimitExceeded(DEEPEST)


def _over_rows(recipes, rows):
    return {name: recipe_over_rows(recipes[name], rows) for name in recipes}
