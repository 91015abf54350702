"""Entering code in the middle, from a state of the interpreter."""

from backframes.equations import Equations, found_by, is_known, missing_value, told_value
from backframes.errors import InvalidArgument
from backframes.frames import check_backs
from backframes.heapforms import steps_to
from backframes.machine import State
from backframes.plain import is_integer, is_tuple_of
from backframes.recipes import recipe_registers
from backframes.runs import run_from
from backframes.values import is_object


def findings(backs, point):
    """A list of steps that find all registers and unmade objects that can be found."""
    return Equations(_state_at(backs, point)).steps()


def finds(backs, point, steps):
    """Whether a thing is a list of steps each of which finds something by those ahead of it."""
    equations = Equations(_state_at(backs, point))
    if not isinstance(steps, list):
        return False
    found = {}
    for step in steps:
        if not is_tuple_of(step, 2) or not _is_plain(step[0]) or not _is_plain(step[1]):
            return False
        thing, place = step
        places = equations.known_places(found)
        if place not in places or found_by(place, places[place], found) != thing:
            return False
        found[thing] = True
    return True


def _state_at(backs, point):
    check_backs(backs)
    return backs.state_at(point)


def _is_plain(thing):
    """Whether a thing is a tuple of strings and integers, as places are and what is found."""
    return isinstance(thing, tuple) and all([isinstance(part, str) or is_integer(part) for part in thing])


def unfound(backs, point):
    """The sorted list of the registers that are needed and cannot be found."""
    state = _state_at(backs, point)
    found = {thing: True for thing, _ in Equations(state).steps()}
    return sorted([name for name in _needed(backs, state, found) if ("in", name) not in found])


def _needed(backs, state, found):
    """A dict with all registers that are needed to enter code at the point of a frame state."""
    names = backs.to_come(state.point)
    row = _row_at(state)
    if row[0] == "guard":
        names.append(row[1])
    for _, recipe in state.claims():
        names.extend(recipe_registers(recipe))
    own = state.own()
    for name in own:
        names.append(name)
        if ("in", name) in found:
            recipes = own[name][1]
            names.extend([used for field in recipes for used in recipe_registers(recipes[field])])
    return {name: True for name in names}


def _row_at(state):
    """The row of the point of a frame state."""
    k, r = state.code.place(state.point)
    return state.code.frozen_blocks()[k][1][r]


def entering(backs, point, state):
    """Whether code can be entered at a point from a state, and with which registers and objects."""
    told = _state_at(backs, point)
    _check_state(backs, state)
    if _places_of(told.frames()) != _places_of(state.frames()):
        return ("frames",)
    lacking = unfound(backs, point)
    if len(lacking) > 0:
        return ("open", lacking)
    entry = Entry(told, state)
    if not entry.holds():
        return ("values",)
    if entry.is_shared():
        return ("shared",)
    row = _row_at(told)
    if row[0] == "guard" and entry.value_of(row[1]) == 0:
        return ("guard",)
    registers = {name: entry.value_of(name) for name in backs.to_come(point)}
    return ("entered", registers, entry.heap_of(list(registers.values())))


def _check_state(backs, state):
    if not isinstance(state, State) or state.source != backs.code.source:
        raise InvalidArgument("state")


def _places_of(frames):
    return [(name, row) for name, row, _ in frames]


class Entry:
    """The values that a state of the interpreter gives to what is found at a point."""

    def __init__(self, told, state):
        self._told = told
        self._equations = Equations(told)
        self._frames = state.frames()
        self._heap = state.heap()
        self._values = {}
        self._fits = self._takes_values()

    def _takes_values(self):
        """Find all values; returns whether each object that the frame state tells is one of its class."""
        places = {}
        for thing, place in self._equations.steps():
            if place not in places:
                places = self._equations.known_places(self._values)
            self._values[thing] = self._solved(place, places[place])
            if thing in self._equations.objects and not self._is_told_object(thing):
                return False
        return True

    def _solved(self, place, recipe):
        """The value of what an equation finds."""
        if place[0] == "row" and ("in", place[1]) not in self._values:
            return told_value(recipe, self._values)
        return missing_value(recipe, self._value_at(place), self._values)

    def _value_at(self, place):
        """The value that the state gives to the recipe at a place."""
        if place[0] == "variable":
            return self._frames[place[1]][2][place[2]]
        if place[0] == "claim":
            return 0
        if place[0] == "row":
            return self._values[("in", place[1])]
        thing = ("unmade" if place[0] == "unmade" else "in", place[1])
        return self._heap[self._values[thing][1]][1][place[2]]

    def _is_told_object(self, thing):
        value = self._values[thing]
        return is_object(value) and self._heap[value[1]][0] == self._equations.objects[thing][0]

    def holds(self):
        """Whether all equations hold, all objects are of their classes and unlike, and so do the claims."""
        if not self._fits:
            return False
        places = self._equations.known_places(self._values)
        for place in places:
            if is_known(places[place], self._values):
                if told_value(places[place], self._values) != self._value_at(place):
                    return False
        if len(self._special()) < len([thing for thing in self._equations.objects if thing in self._values]):
            return False
        return self._claims_hold()

    def _claims_hold(self):
        others = [recipe for word, recipe in self._told.claims() if word == "other"]
        return all([told_value(recipe, self._values) != 0 for recipe in others])

    def _special(self):
        """A dict from the objects that are unmade or own to the recipe by which alone something may refer to them."""
        things = [thing for thing in self._equations.objects if thing in self._values]
        return {self._values[thing][1]: thing for thing in things}

    def is_shared(self):
        """Whether something else refers to an object that is unmade or own."""
        special = self._special()
        places = self._equations.known_places(self._values)
        roots = []
        for place in places:
            if place[0] in ("variable", "unmade", "own"):
                value = self._value_at(place)
                if is_object(value) and special.get(value[1], places[place]) != places[place]:
                    return True
                if place[0] == "variable":
                    roots.append(value)
        for number in steps_to(self._heap, roots):
            if number not in special and self._refers_to(number, special):
                return True
        return False

    def _refers_to(self, number, special):
        """Whether a field of an object has one of the special ones."""
        return any([is_object(value) and value[1] in special for value in self._heap[number][1].values()])

    def value_of(self, name):
        return self._values[("in", name)]

    def heap_of(self, values):
        """The objects that are met from values."""
        return {number: self._heap[number] for number in steps_to(self._heap, values)}


def entered_run(backs, point, state, *, choice=None):
    """The run of code that is entered at a point, or None."""
    told = entering(backs, point, state)
    if told[0] != "entered":
        return None
    return run_from(backs, point, told[1], told[2], choice=choice)


def entries(backs, state):
    """The list of the points with the words that tell whether code can be entered there."""
    check_backs(backs)
    _check_state(backs, state)
    return [(point, entering(backs, point, state)[0]) for point in backs.code.points()]
