"""Unmade objects beside a heap: what they must be, and values that may refer to them."""

from backframes.errors import InvalidState
from backframes.heapforms import have_same_names, is_value_in
from backframes.plain import is_integer, is_name, is_tuple_of

MOST_UNMADE = 200


def is_unmade(thing):
    """Whether a thing refers to an unmade object."""
    if not is_tuple_of(thing, 2) or not isinstance(thing[0], str) or thing[0] != "unmade":
        return False
    return is_integer(thing[1])


def check_values(values, heap, unmade, name):
    """Raise whether values are no list of such that may refer to unmade objects; the name is that of the parameter."""
    numbers = _numbers_in(unmade)
    if not isinstance(values, list) or not all([_is_part_in(value, heap, numbers) for value in values]):
        raise InvalidState(name)


def _numbers_in(unmade):
    """A dict with the numbers of unmade objects, whatever is wrong with these."""
    return {k: True for k in unmade if is_integer(k)} if isinstance(unmade, dict) else {}


def _is_part_in(thing, heap, numbers):
    return thing[1] in numbers if is_unmade(thing) else is_value_in(thing, heap)


def check_unmade(unmade, heap):
    """Raise whether unmade objects are not as they must be beside a heap."""
    if not isinstance(unmade, dict) or len(unmade) > MOST_UNMADE:
        raise InvalidState("unmade")
    numbers = _numbers_in(unmade)
    shapes = {title: fields for title, fields in heap.values()}
    for k in unmade:
        if not is_integer(k) or k < 0 or not _is_content(unmade[k], heap, numbers):
            raise InvalidState("unmade")
        title, fields = unmade[k]
        if not have_same_names(shapes.setdefault(title, fields), fields):
            raise InvalidState("unmade")


def _is_content(thing, heap, numbers):
    if not is_tuple_of(thing, 2) or not is_name(thing[0]) or not isinstance(thing[1], dict):
        return False
    return all([is_name(field) and _is_part_in(thing[1][field], heap, numbers) for field in thing[1]])
