"""Tests of plain things: each one takes an object of any kind."""

GREATEST_WRITTEN = 10 ** 9
LETTERS = "abcdefghijklmnopqrstuvwxyz"
MARKS = "abcdefghijklmnopqrstuvwxyz0123456789"
KINDS = ("number", "object")


def is_integer(thing):
    return isinstance(thing, int) and not isinstance(thing, bool)


def is_integer_in(thing, least, most):
    return is_integer(thing) and least <= thing <= most


def is_written_number(thing):
    """Whether a number may stand in a source, in code or in a recipe."""
    return is_integer_in(thing, -GREATEST_WRITTEN, GREATEST_WRITTEN)


def is_name(thing):
    if not isinstance(thing, str) or not 1 <= len(thing) <= 8:
        return False
    return thing[0] in LETTERS and all([mark in MARKS for mark in thing])


def is_kind(thing):
    return isinstance(thing, str) and thing in KINDS


def is_tuple_of(thing, many):
    return isinstance(thing, tuple) and len(thing) == many


def is_list_of(thing, least, most):
    return isinstance(thing, list) and least <= len(thing) <= most


def is_list_of_names(thing):
    return isinstance(thing, list) and all([is_name(part) for part in thing])


def is_word_tuple(thing):
    """Whether a thing is a tuple that begins with a string, as all rows and recipes do."""
    return isinstance(thing, tuple) and len(thing) > 0 and isinstance(thing[0], str)


def frozen(thing):
    """A thing with tuples in the place of all lists: what the program keeps cannot be changed."""
    if isinstance(thing, (list, tuple)):
        return tuple([frozen(part) for part in thing])
    return thing


def are_named_kinds(thing, most):
    """Whether a thing is a list of at most so many tuples (name, kind) with different names."""
    if not is_list_of(thing, 0, most):
        return False
    names = {}
    for pair in thing:
        if not is_tuple_of(pair, 2) or not is_name(pair[0]) or not is_kind(pair[1]):
            return False
        if pair[0] in names:
            return False
        names[pair[0]] = True
    return True
