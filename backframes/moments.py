"""What a moment of a run must be, part by part, told of things of any kind."""

from backframes.errors import InvalidState
from backframes.plain import is_integer, is_list_of, is_tuple_of
from backframes.values import holds_values, is_object


def are_stacked(source, frames, most):
    """Whether frames stand at rows of functions, each but the last at a call of the next one's function."""
    if not is_list_of(frames, 1, most):
        return False
    if not all([_stands(source, frame) for frame in frames]):
        return False
    for caller, frame in zip(frames, frames[1:]):
        if source.function_at(caller[0]).called_at(caller[1]) != frame[0]:
            return False
    return True


def _stands(source, frame):
    if not is_tuple_of(frame, 3):
        return False
    function = source.function_at(frame[0])
    return function is not None and function.has_row(frame[1])


def check_heap(source, heap, values):
    """Raise what is wrong with a heap of a source, or with values that refer to its objects."""
    if not isinstance(heap, dict):
        raise InvalidState("heap")
    for number in heap:
        if not is_integer(number) or number < 0 or not _is_content(source, heap[number]):
            raise InvalidState("heap")
    inner = [value for _, fields in heap.values() for value in fields.values()]
    for value in [*values, *inner]:
        if is_object(value) and value[1] not in heap:
            raise InvalidState("objects")


def _is_content(source, thing):
    if not is_tuple_of(thing, 2):
        return False
    fields = source.fields_of(thing[0])
    return fields is not None and holds_values(thing[1], dict(fields))
