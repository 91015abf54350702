"""Recipes: how a value is told at a point of code."""

from backframes.plain import is_integer, is_name, is_tuple_of, is_word_tuple, is_written_number
from backframes.values import OPERATIONS, reckoned

DEEPEST = 5


def recipe_kind(thing, kinds, unmade, left=DEEPEST):
    """The kind of a recipe over registers with kinds and the numbers of unmade objects; None for no recipe.

    left is how many operations may stand within one another.
    """
    if not is_word_tuple(thing):
        return None
    if thing[0] in OPERATIONS:
        return _operation_kind(thing, kinds, unmade, left)
    if thing[0] == "nil":
        return "object" if len(thing) == 1 else None
    return _leaf_kind(thing[0], thing[1], kinds, unmade) if len(thing) == 2 else None


def _operation_kind(thing, kinds, unmade, left):
    if len(thing) != 3 or left == 0:
        return None
    one = recipe_kind(thing[1], kinds, unmade, left - 1)
    other = recipe_kind(thing[2], kinds, unmade, left - 1)
    if one is None or one != other:
        return None
    return "number" if one == "number" or thing[0] == "same" else None


def _leaf_kind(word, part, kinds, unmade):
    if word == "in":
        return kinds.get(part) if is_name(part) else None
    if word == "number":
        return "number" if is_written_number(part) else None
    return "object" if word == "unmade" and is_integer(part) and part in unmade else None


def recipe_registers(recipe):
    """The list of the registers in a recipe."""
    if recipe[0] in OPERATIONS:
        return recipe_registers(recipe[1]) + recipe_registers(recipe[2])
    return [recipe[1]] if recipe[0] == "in" else []


def recipe_value(recipe, registers, unmade):
    """The value that a recipe tells, with the values of registers and of unmade objects."""
    word = recipe[0]
    if word in OPERATIONS:
        one = recipe_value(recipe[1], registers, unmade)
        return reckoned(word, one, recipe_value(recipe[2], registers, unmade))
    if word == "in":
        return registers[recipe[1]]
    if word == "unmade":
        return unmade[recipe[1]]
    return recipe[1] if word == "number" else None


def are_recipes(thing, names, kinds, unmade):
    """Whether a thing is a dict from some of the names, a dict of kinds, to recipes of their kinds."""
    if not isinstance(thing, dict):
        return False
    for name in thing:
        if name not in names or recipe_kind(thing[name], kinds, unmade) != names[name]:
            return False
    return True


def is_told_object(source, thing, kinds, unmade):
    """Whether a thing is a tuple of a class and a dict with a recipe for each of its fields."""
    if not is_tuple_of(thing, 2):
        return False
    fields = source.fields_of(thing[0])
    if fields is None or not are_recipes(thing[1], dict(fields), kinds, unmade):
        return False
    return len(thing[1]) == len(fields)


def row_recipe(row):
    """The recipe by which a register is computed again from those that its row uses."""
    if row[0] == "number":
        return ("number", row[2])
    return ("nil",) if row[0] == "nil" else (row[0], ("in", row[2]), ("in", row[3]))


def recipe_depth(recipe, rows, met):
    """How many operations stand within one another once the registers of a dict of rows are put in.

    met is a dict to which the depths of such registers are added, so that none is looked at twice.
    """
    if recipe[0] in OPERATIONS:
        return 1 + max(recipe_depth(recipe[1], rows, met), recipe_depth(recipe[2], rows, met))
    if recipe[0] != "in" or recipe[1] not in rows:
        return 0
    if recipe[1] not in met:
        met[recipe[1]] = recipe_depth(row_recipe(rows[recipe[1]]), rows, met)
    return met[recipe[1]]


def recipe_over_rows(recipe, rows):
    """The recipe in which the registers of a dict of rows are computed again."""
    if recipe[0] in OPERATIONS:
        return (recipe[0], recipe_over_rows(recipe[1], rows), recipe_over_rows(recipe[2], rows))
    if recipe[0] == "in" and recipe[1] in rows:
        return recipe_over_rows(row_recipe(rows[recipe[1]]), rows)
    return recipe
