"""Equations at a point: what the recipes of a frame state and the rows of code tell of registers and unmade objects.

Registers and unmade objects that are found are told as recipes are, ("in", r) and ("unmade", k).
"""

from backframes.recipes import row_recipe
from backframes.values import OPERATIONS, operated


class Equations:
    """The recipes of a frame state and of the rows above its point, each with its place."""

    def __init__(self, state):
        self._fixed = {}
        for at, (_, _, recipes) in enumerate(state.frames()):
            for name in recipes:
                self._fixed[("variable", at, name)] = recipes[name]
        for at, (word, recipe) in enumerate(state.claims()):
            if word == "zero":
                self._fixed[("claim", at)] = recipe
        rows = state.code.again_rows()
        for name in state.code.usable(state.point):
            if name in rows:
                self._fixed[("row", name)] = row_recipe(rows[name])
        # The objects that the frame state tells, by what finds them.
        self.objects = {}
        unmade = state.unmade()
        for k in unmade:
            self.objects[("unmade", k)] = unmade[k]
        own = state.own()
        for name in own:
            self.objects[("in", name)] = own[name]

    def known_places(self, found):
        """A dict from the places of the equations to their recipes, once some things have been found."""
        places = dict(self._fixed)
        for thing in self.objects:
            if thing in found:
                recipes = self.objects[thing][1]
                for field in recipes:
                    places[_place_in(thing, field)] = recipes[field]
        return places

    def steps(self):
        """A list of tuples (thing, place) that finds all that can be found."""
        found = {}
        steps = []
        grown = True
        while grown:
            grown = False
            places = self.known_places(found)
            for place in places:
                thing = found_by(place, places[place], found)
                if thing is not None:
                    found[thing] = True
                    steps.append((thing, place))
                    grown = True
        return steps


def _place_in(thing, field):
    """The place of the equation of a field of an object."""
    return ("unmade" if thing[0] == "unmade" else "own", thing[1], field)


def found_by(place, recipe, found):
    """What an equation finds that has not been found, or None."""
    if place[0] == "row" and ("in", place[1]) not in found:
        return ("in", place[1]) if is_known(recipe, found) else None
    return _missing_in(recipe, found)


def is_known(recipe, found):
    """Whether all registers and unmade objects in a recipe have been found."""
    if recipe[0] in OPERATIONS:
        return is_known(recipe[1], found) and is_known(recipe[2], found)
    return recipe[0] not in ("in", "unmade") or recipe in found


def _missing_in(recipe, found):
    """What is found by the value of a recipe, or None."""
    if recipe[0] in ("in", "unmade"):
        return None if recipe in found else recipe
    if recipe[0] not in ("add", "sub"):
        return None
    known = [is_known(part, found) for part in recipe[1:]]
    if known[0] == known[1]:
        return None
    return _missing_in(recipe[2] if known[0] else recipe[1], found)


def told_value(recipe, values):
    """The value of a recipe that is known, by a dict with the values of what has been found."""
    if recipe[0] in OPERATIONS:
        return operated(recipe[0], told_value(recipe[1], values), told_value(recipe[2], values))
    if recipe[0] in ("in", "unmade"):
        return values[recipe]
    return recipe[1] if recipe[0] == "number" else None


def missing_value(recipe, value, values):
    """The value of the one thing in a recipe that has not been found, by the value of the recipe."""
    if recipe[0] in ("in", "unmade"):
        return value
    if is_known(recipe[1], values):
        known = told_value(recipe[1], values)
        return missing_value(recipe[2], value - known if recipe[0] == "add" else known - value, values)
    known = told_value(recipe[2], values)
    return missing_value(recipe[1], value - known if recipe[0] == "add" else value + known, values)
