"""The recipes that are tried for a variable at a point, in their order."""

from backframes.plain import is_written_number
from backframes.termforms import NumberTerm, added, factor_of

PAIR_WORDS = ("add", "sub", "times", "less", "same")


def first_telling(state, arrivals, at, variable):
    """The first recipe that tells a variable of a frame on all arrivals at the point of a frame state, or None."""
    code = state.code
    kinds = code.kinds()
    registers = {"number": [], "object": []}
    for name in code.usable(state.point):
        registers[kinds[name]].append(name)
    if code.source.function_at(state.frames()[at][0]).variables[variable] == "object":
        plain = [("nil",), *_told_by(registers["object"])]
        return _first_of([*plain, *[("unmade", k) for k in sorted(list(state.unmade()))]], arrivals, at, variable)
    if len(arrivals) == 0:
        return ("number", 0)
    plain = [*_number_known(arrivals[0], at, variable), *_told_by(registers["number"])]
    found = _first_of(plain, arrivals, at, variable)
    for word in PAIR_WORDS:
        if found is None:
            pairs = [recipe for recipe in _pairs(word, registers) if arrivals[0].may_tell(at, variable, recipe)]
            found = _first_of(pairs, arrivals, at, variable)
    if found is None:
        found = _first_of(_shifted(registers["number"], arrivals[0], at, variable), arrivals, at, variable)
    return found


def _first_of(recipes, arrivals, at, variable):
    for recipe in recipes:
        if _tells_on_all(recipe, arrivals, at, variable):
            return recipe
    return None


def _tells_on_all(recipe, arrivals, at, variable):
    # Most recipes are wrong on the first way, so that the others need not be looked at.
    for arrival in arrivals:
        if not arrival.tells(at, variable, recipe):
            return False
    return True


def _told_by(names):
    return [("in", name) for name in names]


def _number_known(arrival, at, variable):
    """The list of the recipe of the integer that a variable is known to be, if there is one."""
    least, greatest = arrival.way.facts.ends(arrival.value_at(at, variable))
    return [("number", least)] if least == greatest and is_written_number(least) else []


def _pairs(word, registers):
    """The list of the recipes of an operation on two registers."""
    kinds = ["number", "object"] if word == "same" else ["number"]
    told = [_told_by(registers[kind]) for kind in kinds]
    return [(word, one, other) for names in told for one in names for other in names]


def _shifted(names, arrival, at, variable):
    """The list of the recipes of a register and an integer with which they tell a variable on an arrival."""
    facts = arrival.way.facts
    value = arrival.value_at(at, variable)
    terms = {name: arrival.told(("in", name)) for name in names}
    recipes = []
    for name in names:
        n = _only_value(facts, added(value, terms[name], -1))
        recipes.append(("add", ("in", name), ("number", n)))
    for name in names:
        n = _only_value(facts, added(value, terms[name], 1))
        recipes.append(("sub", ("number", n), ("in", name)))
    for name in names:
        n = _only_ratio(facts, value, terms[name])
        recipes.append(("times", ("in", name), ("number", n)))
    return [recipe for recipe in recipes if _has_written_numbers(recipe)]


def _has_written_numbers(recipe):
    return all([part[0] != "number" or is_written_number(part[1]) for part in recipe[1:]])


def _only_value(facts, term):
    """The integer that a term is known to be, or None."""
    least, greatest = facts.ends(term)
    return least if least == greatest else None


def _only_ratio(facts, one, other):
    """The integer by which a term with parts must be multiplied to be known to be another one, or None."""
    if len(one.pieces) == 0 or len(other.pieces) == 0:
        return None
    # What is known to be 0 can be taken away from both, so that they have a part less.
    for nothing in [None, *facts.zeros()]:
        ratio = _ratio_without(one, other, nothing)
        if ratio is not None and facts.zero(added(one, other, -ratio)) == "zero":
            return ratio
    return None


def _ratio_without(one, other, nothing):
    """The integer ratio of the first parts of two terms, once the first part of what is 0 is gone from both."""
    if nothing is not None:
        factor, atoms = nothing.pieces[0]
        one = _without(one, nothing, factor, atoms)
        other = _without(other, nothing, factor, atoms)
    if len(other.pieces) == 0:
        return _quotient(one.integer, other.integer)
    factor, atoms = other.pieces[0]
    return _quotient(factor_of(one, atoms), factor)


def _without(term, nothing, factor, atoms):
    """A multiple of a term by a factor, with as much of what is 0 taken away as to lack the part of some atoms."""
    multiple = added(NumberTerm(0, ()), term, factor)
    return added(multiple, nothing, -factor_of(term, atoms))


def _quotient(one, other):
    return one // other if other != 0 and one % other == 0 else None
