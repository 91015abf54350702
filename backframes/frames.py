"""Frame states: what the interpreter's frames and objects are at a point of code."""

from backframes.code import Code
from backframes.errors import InvalidArgument, InvalidCode, InvalidNumber
from backframes.machine import State
from backframes.moments import are_stacked, check_heap
from backframes.plain import is_integer, is_integer_in, is_list_of, is_tuple_of
from backframes.recipes import are_recipes, is_told_object, recipe_kind, recipe_registers, recipe_value
from backframes.registers import read_behind, with_origins
from backframes.rowforms import row_reads
from backframes.values import blank, copied_heap, is_value, next_number
from backframes.wanted import wanted, wanted_at_call

MOST_FRAMES = 5
GREATEST_UNMADE = 4
MOST_CLAIMS = 5


class FrameState:
    """The frames at a point of code, and the objects that are made only when one goes back."""

    def __init__(self, code, point, frames, *, unmade, own, claims):
        if not isinstance(code, Code):
            raise InvalidCode("code", None)
        made = code.kinds()
        kinds = {name: made[name] for name in code.usable(point)}
        numbers = [k for k in unmade if is_integer(k)] if isinstance(unmade, dict) else []
        if not _are_frames(code, frames, kinds, numbers):
            raise InvalidArgument("frames")
        if not _are_unmade(code.source, unmade, kinds, numbers):
            raise InvalidArgument("unmade")
        if not _are_own(code.source, own, kinds):
            raise InvalidArgument("own")
        if not _are_claims(claims, kinds):
            raise InvalidArgument("claims")
        self.code = code
        self.point = point
        self._frames = [(name, row, dict(recipes)) for name, row, recipes in frames]
        self._unmade = copied_heap(unmade)
        self._own = copied_heap(own)
        self._claims = list(claims)
        self._registers = self._used_registers()

    def frames(self):
        return [(name, row, dict(recipes)) for name, row, recipes in self._frames]

    def unmade(self):
        return copied_heap(self._unmade)

    def own(self):
        return copied_heap(self._own)

    def claims(self):
        return list(self._claims)

    def registers(self):
        """The sorted list of the registers that frames and unmade objects are made of."""
        return list(self._registers)

    def _used_registers(self):
        tables = [recipes for _, _, recipes in self._frames]
        tables.extend([recipes for _, recipes in self._unmade.values()])
        used = {}
        for recipes in tables:
            for name in recipes:
                for used_name in recipe_registers(recipes[name]):
                    used[used_name] = True
        return tuple(sorted(list(used)))

    def all_registers(self):
        """The list of the registers in all parts, own ones only if they stand in a recipe."""
        names = list(self._registers)
        recipes = [recipe for _, recipe in self._claims]
        for _, told in self._own.values():
            recipes.extend(list(told.values()))
        for recipe in recipes:
            names.extend(recipe_registers(recipe))
        return names

    def __eq__(self, other):
        return (
            isinstance(other, FrameState)
            and self.code == other.code
            and self.point == other.point
            and self._frames == other._frames
            and self._unmade == other._unmade
            and self._own == other._own
            and self._claims == other._claims
        )


def _are_frames(code, frames, kinds, numbers):
    if not are_stacked(code.source, frames, MOST_FRAMES) or frames[0][0] != code.owner():
        return False
    for at, (name, row, recipes) in enumerate(frames):
        variables = code.source.function_at(name).variables
        if not are_recipes(recipes, variables, kinds, numbers):
            return False
        waits = at < len(frames) - 1
        asked = wanted_at_call(code.source, name, row) if waits else wanted(code.source, name, row)
        if not all([variable in recipes for variable in asked]):
            return False
    return True


def _are_unmade(source, unmade, kinds, numbers):
    if not isinstance(unmade, dict):
        return False
    for k in unmade:
        if not is_integer_in(k, 0, GREATEST_UNMADE) or not is_told_object(source, unmade[k], kinds, numbers):
            return False
    return True


def _are_own(source, own, kinds):
    if not isinstance(own, dict):
        return False
    for name in own:
        if kinds.get(name) != "object" or not is_told_object(source, own[name], kinds, []):
            return False
    return True


def _are_claims(claims, kinds):
    return is_list_of(claims, 0, MOST_CLAIMS) and all([_is_claim(claim, kinds) for claim in claims])


def _is_claim(claim, kinds):
    if not is_tuple_of(claim, 2) or claim[0] not in ("zero", "other"):
        return False
    return recipe_kind(claim[1], kinds, []) == "number"


def built(state, registers, heap):
    """The state of the interpreter when code with these registers and objects goes back."""
    if not isinstance(state, FrameState):
        raise InvalidArgument("state")
    used = state.registers()
    if not _has_values(registers, used, state.code.kinds()):
        raise InvalidArgument("registers")
    source = state.code.source
    check_heap(source, heap, [registers[name] for name in used])
    frames, objects = _built_parts(state, registers, heap)
    return State(source, frames, objects)


def _has_values(registers, used, kinds):
    if not isinstance(registers, dict):
        return False
    return all([name in registers and is_value(registers[name], kinds[name]) for name in used])


def _built_parts(state, registers, heap):
    """The frames and the heap, with the unmade objects made behind all others."""
    unmade = state.unmade()
    first = next_number(heap)
    made = {k: ("object", first + at) for at, k in enumerate(sorted(list(unmade)))}
    frames = []
    for name, row, recipes in state.frames():
        variables = state.code.source.function_at(name).variables
        frames.append((name, row, _told(recipes, variables, registers, made)))
    objects = copied_heap(heap)
    for k in unmade:
        title, recipes = unmade[k]
        objects[made[k][1]] = (title, _told(recipes, {}, registers, made))
    return (frames, objects)


def _told(recipes, variables, registers, made):
    """The values that recipes tell; variables without recipes hold 0 or nil."""
    values = {name: blank(variables[name]) for name in variables}
    for name in recipes:
        values[name] = recipe_value(recipes[name], registers, made)
    return values


class Backs:
    """Code with a frame state for each of its points."""

    def __init__(self, code, states):
        if not isinstance(code, Code):
            raise InvalidCode("code", None)
        if not isinstance(states, list) or not all([_is_of(state, code) for state in states]):
            raise InvalidArgument("states")
        self._states = {state.point: state for state in states}
        if sorted([state.point for state in states]) != code.points():
            raise InvalidArgument("states")
        self.code = code
        self._coming = {}
        self._later = {}
        self._answers = {}

    def state_at(self, point):
        if not is_integer(point) or point not in self._states:
            raise InvalidNumber(point)
        return self._states[point]

    def states(self):
        return [self._states[point] for point in self.code.points()]

    def to_come(self, point):
        """The sorted list of the registers that are read at a point, by frame states too, or behind it.

        They are looked for once, for all points, when they are asked for: what they come from never changes.
        """
        self.state_at(point)
        if len(self._coming) == 0:
            asked = {state.point: state.registers() for state in self.states()}
            behind = read_behind(self.code.frozen_blocks(), asked)
            for other in asked:
                coming = {name: True for name in [*behind[other], *asked[other]]}
                self._coming[other] = tuple(sorted(list(coming)))
        return list(self._coming[point])

    def read_later(self, point):
        """The list of the registers that stand at a point or are read behind it, by all parts of frame states too,
        and of those from which they are computed again; all are looked for once."""
        if len(self._later) == 0:
            self._look_later()
        return list(self._later[point])

    def _look_later(self):
        rows = self.code.again_rows()
        come = {name: row_reads(rows[name]) if name in rows else [] for name in self.code.kinds()}
        asked = {state.point: state.all_registers() for state in self.states()}
        known = {state.point: [*asked[state.point], *list(state.own())] for state in self.states()}
        behind = read_behind(self.code.frozen_blocks(), known)
        for point in asked:
            k, r = self.code.place(point)
            read = row_reads(self.code.frozen_blocks()[k][1][r])
            self._later[point] = tuple(with_origins([*read, *asked[point], *behind[point]], come))

    def answer(self, question):
        """What was noted as the answer to a question, or None."""
        return self._answers.get(question)

    def note_answer(self, question, told):
        """Note the answer to a question; it never changes, as neither code nor frame states do."""
        self._answers[question] = told

    def __eq__(self, other):
        return isinstance(other, Backs) and self.code == other.code and self._states == other._states


def _is_of(state, code):
    return isinstance(state, FrameState) and state.code == code


def check_backs(thing):
    """Raise whether a thing is no code with frame states."""
    if not isinstance(thing, Backs):
        raise InvalidCode("backs", None)
