"""Values of runs, heaps of objects, and what numbers are reckoned to."""

from backframes.errors import LimitExceeded
from backframes.plain import is_integer, is_tuple_of

GREATEST_RECKONED = 10 ** 60
OPERATIONS = ("add", "sub", "times", "less", "same")


def blank(kind):
    """What a variable or field of a kind holds as long as nothing is put there."""
    return 0 if kind == "number" else None


def is_object(thing):
    if not is_tuple_of(thing, 2) or not isinstance(thing[0], str) or thing[0] != "object":
        return False
    return is_integer(thing[1]) and thing[1] >= 0


def is_value(thing, kind):
    if kind == "number":
        return is_integer(thing)
    return thing is None or is_object(thing)


def are_arguments(thing, kinds):
    """Whether a thing is a list of values of these kinds, without objects."""
    if not isinstance(thing, list) or len(thing) != len(kinds):
        return False
    return all([is_value(value, kind) and not is_object(value) for value, kind in zip(thing, kinds)])


def holds_values(thing, kinds):
    """Whether a thing is a dict of values for just the names of a dict of kinds."""
    if not isinstance(thing, dict) or len(thing) != len(kinds):
        return False
    for name in thing:
        if name not in kinds or not is_value(thing[name], kinds[name]):
            return False
    return True


def operated(word, one, other):
    """The number of an operation on two values, of any size."""
    if word == "less":
        return 1 if one < other else 0
    if word == "same":
        return 1 if one == other else 0
    if word == "add":
        return one + other
    return one - other if word == "sub" else one * other


def reckoned(word, one, other):
    """The number of an operation on two values, within the limit of runs."""
    number = operated(word, one, other)
    if abs(number) > GREATEST_RECKONED:
        raise LimitExceeded(GREATEST_RECKONED)
    return number


def next_number(heap):
    """The number behind the greatest one of a heap."""
    return max(heap, default=-1) + 1


def copied_heap(heap):
    """A new dict with the same tuples of a class and a dict; so also for what tells objects by recipes."""
    return {number: (heap[number][0], dict(heap[number][1])) for number in heap}
