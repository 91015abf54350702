"""The forms of blocks and ends of code, each one by itself."""

from backframes.plain import is_integer_in, is_list_of_names, is_name, is_tuple_of, is_word_tuple
from backframes.rowforms import told_row

ROW_WORDS = (
    "number", "add", "sub", "times", "less", "same", "nil", "new", "get", "call",
    "put", "see", "guard", "look",
)
GREATEST_GOAL = 11


def is_end(thing):
    """Whether a thing is an end, whatever its names and numbers of blocks stand for."""
    if not is_word_tuple(thing):
        return False
    if thing[0] == "go":
        return _is_goal(thing[1:])
    if thing[0] == "if":
        return len(thing) == 4 and is_name(thing[1]) and _is_goal(thing[2]) and _is_goal(thing[3])
    return thing[0] == "return" and len(thing) == 2 and is_name(thing[1])


def _is_goal(thing):
    return is_tuple_of(thing, 2) and is_integer_in(thing[0], 1, GREATEST_GOAL) and is_list_of_names(thing[1])


def end_goals(end):
    """The list of the goals of an end, tuples of a block and registers."""
    if end[0] == "go":
        return [(end[1], end[2])]
    return [end[2], end[3]] if end[0] == "if" else []


def end_asks(end):
    """The register that an end uses by itself, whatever it gives to its goals; or None."""
    return None if end[0] == "go" else end[1]


def end_uses(end):
    """The list of the registers that an end uses."""
    asked = end_asks(end)
    names = [] if asked is None else [asked]
    for _, given in end_goals(end):
        names.extend(given)
    return names


def row_point(row):
    """The point of a row, or None."""
    return row[-1] if row[0] in ("guard", "look") else None


def made_kind(source, row):
    """The kind of the register that a row makes."""
    if row[0] == "get":
        return source.field_kind(row[3])
    if row[0] == "call":
        return source.function_at(row[2]).result
    return "object" if row[0] in ("nil", "new") else "number"


def told_block(block):
    """A frozen block as the document writes it."""
    return (list(block[0]), [told_row(row) for row in block[1]], _told_end(block[2]))


def _told_end(end):
    goals = [(k, list(given)) for k, given in end_goals(end)]
    if end[0] == "go":
        return ("go", *goals[0])
    return ("if", end[1], *goals) if end[0] == "if" else end
