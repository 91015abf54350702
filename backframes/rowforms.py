"""The rows that sources and code have: their forms, what they set and read, and of which kinds."""

from backframes.plain import is_integer, is_integer_in, is_list_of_names, is_name, is_word_tuple, is_written_number

ROLES = {
    "number": ("sets", "number"),
    "nil": ("sets",),
    "copy": ("sets", "reads"),
    "add": ("sets", "reads", "reads"),
    "sub": ("sets", "reads", "reads"),
    "times": ("sets", "reads", "reads"),
    "less": ("sets", "reads", "reads"),
    "same": ("sets", "reads", "reads"),
    "new": ("sets", "class"),
    "get": ("sets", "reads", "field"),
    "put": ("reads", "field", "reads"),
    "call": ("sets", "function", "many"),
    "see": ("reads",),
    "if": ("reads", "row"),
    "jump": ("row",),
    "return": ("reads",),
    "guard": ("reads", "point"),
    "look": ("point",),
}
NUMBER_WORDS = ("number", "add", "sub", "times", "less", "if", "guard")
GREATEST_POINT = 99


def is_row(source, thing, words):
    """Whether a thing is a row that begins with one of the words, whatever its names stand for."""
    if not is_word_tuple(thing) or thing[0] not in words:
        return False
    roles = ROLES[thing[0]]
    if len(thing) != len(roles) + 1:
        return False
    return all([_fills(source, role, part) for role, part in zip(roles, thing[1:])])


def _fills(source, role, part):
    if role in ("sets", "reads"):
        return is_name(part)
    if role == "number":
        return is_written_number(part)
    if role == "class":
        return source.fields_of(part) is not None
    if role == "field":
        return source.field_kind(part) is not None
    if role == "function":
        return source.function_at(part) is not None
    if role == "many":
        return is_list_of_names(part)
    if role == "row":
        return is_integer(part)
    return is_integer_in(part, 0, GREATEST_POINT)


def row_sets(row):
    """The variable or register that a row sets, or None."""
    return row[1] if ROLES[row[0]][0] == "sets" else None


def row_reads(row):
    """The list of the variables or registers that a row reads."""
    names = []
    for role, part in zip(ROLES[row[0]], row[1:]):
        if role == "reads":
            names.append(part)
        elif role == "many":
            names.extend(part)
    return names


def row_kinds_fit(source, row, kinds, result):
    """Whether all names in a row are of the kinds that it asks for, in a function with this result."""
    word = row[0]
    if word in NUMBER_WORDS:
        return all([kinds[name] == "number" for name in _names_in(row)])
    if word == "get":
        return kinds[row[2]] == "object" and kinds[row[1]] == source.field_kind(row[3])
    if word == "put":
        return kinds[row[1]] == "object" and kinds[row[3]] == source.field_kind(row[2])
    if word == "call":
        return _call_fits(source.function_at(row[2]), row, kinds)
    if word == "same":
        return kinds[row[1]] == "number" and kinds[row[2]] == kinds[row[3]]
    if word == "copy":
        return kinds[row[1]] == kinds[row[2]]
    if word in ("nil", "new"):
        return kinds[row[1]] == "object"
    return word != "return" or kinds[row[1]] == result


def _names_in(row):
    names = row_reads(row)
    name = row_sets(row)
    return names if name is None else [name, *names]


def _call_fits(function, row, kinds):
    given = [kinds[name] for name in row[3]]
    return given == [kind for _, kind in function.params] and kinds[row[1]] == function.result


def told_row(row):
    """A frozen row as the document writes it."""
    return tuple([list(part) if isinstance(part, tuple) else part for part in row])
