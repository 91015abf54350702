"""Heaps and roots where nothing is known of a source: what they must be, and which objects are met."""

from backframes.errors import InvalidState
from backframes.plain import is_integer, is_name, is_tuple_of
from backframes.values import is_object

MOST_OBJECTS = 2000


def check_heap_and_roots(heap, roots, heap_name, roots_name):
    """Raise which of the two is not as it must be; the names are those of the parameters."""
    check_heap(heap, heap_name)
    check_roots(roots, heap, roots_name)


def check_heap(heap, name):
    if not is_heap(heap):
        raise InvalidState(name)


def check_roots(roots, heap, name):
    if not isinstance(roots, list) or not all([is_value_in(value, heap) for value in roots]):
        raise InvalidState(name)


def is_heap(thing):
    """Whether a thing is a dict of objects that refer to one another, and those of a class have the same fields."""
    if not isinstance(thing, dict) or len(thing) > MOST_OBJECTS:
        return False
    shapes = {}
    for number in thing:
        if not is_integer(number) or number < 0 or not _is_content(thing[number], thing):
            return False
        title, fields = thing[number]
        if not have_same_names(shapes.setdefault(title, fields), fields):
            return False
    return True


def _is_content(thing, heap):
    if not is_tuple_of(thing, 2) or not is_name(thing[0]) or not isinstance(thing[1], dict):
        return False
    return all([is_name(field) and is_value_in(thing[1][field], heap) for field in thing[1]])


def is_value_in(thing, heap):
    """Whether a thing is a value, if an object then one of the heap."""
    return thing is None or is_integer(thing) or (is_object(thing) and thing[1] in heap)


def have_same_names(one, other):
    """Whether two dicts have the same keys."""
    return len(one) == len(other) and all([name in other for name in one])


def steps_to(heap, roots):
    """A dict from the objects that are met, in their order, to the last steps of their least paths.

    A step is a tuple of the object ahead and the field, or of None and the index of the root.
    """
    steps = {}
    for k, value in enumerate(roots):
        if is_object(value) and value[1] not in steps:
            steps[value[1]] = (None, k)
    waiting = list(steps)
    at = 0
    while at < len(waiting):
        number = waiting[at]
        at += 1
        fields = heap[number][1]
        for field in sorted(list(fields)):
            value = fields[field]
            if is_object(value) and value[1] not in steps:
                steps[value[1]] = (number, field)
                waiting.append(value[1])
    return steps


def path_over(steps, last):
    """The path that ends with the step to the last one."""
    path = []
    while last is not None:
        last, step = steps[last]
        path.append(step)
    return tuple(path[::-1])


def are_like(heap, one, other_heap, other):
    """Whether values of two heaps are alike by themselves, whatever their fields hold."""
    if not is_object(one) or not is_object(other):
        return one == other
    title, fields = heap[one[1]]
    return title == other_heap[other[1]][0] and have_same_names(fields, other_heap[other[1]][1])
