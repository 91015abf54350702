"""Objects that look alike: only the question whether they are the same one can tell them."""

from backframes.errors import InvalidArgument, LimitExceeded
from backframes.heapforms import are_like, check_heap, check_heap_and_roots, is_value_in, path_over
from backframes.heaps import renamed_heap
from backframes.values import is_object

MOST_COMPARED = 300


def look_alikes(heap):
    """The list of the ascending lists of the objects that look alike."""
    check_heap(heap, "heap")
    _check_size(heap)
    groups = {}
    firsts = _firsts_of(heap)
    for number in sorted(list(heap)):
        groups.setdefault(firsts[number], []).append(number)
    return [groups[first] for first in groups]


def _check_size(heap):
    if len(heap) > MOST_COMPARED:
        raise LimitExceeded(MOST_COMPARED)


def _firsts_of(heap):
    """A dict from the objects to the least one that looks like each.

    All objects are taken to look alike, and are told apart by what their fields hold as long as some can be.
    """
    order = sorted(list(heap))
    names = {number: sorted(list(heap[number][1])) for number in order}
    firsts = {number: -1 for number in order}
    many = 0
    grown = True
    while grown:
        looks = {}
        told = {}
        for number in order:
            title, fields = heap[number]
            look = (title, tuple([(field, _look_of(fields[field], firsts)) for field in names[number]]), firsts[number])
            told[number] = looks.setdefault(look, number)
        firsts = told
        grown = len(looks) > many
        many = len(looks)
    return firsts


def _look_of(value, firsts):
    """What is known of how a value looks."""
    return ("object", firsts[value[1]]) if is_object(value) else value


def told_apart(heap, one, other):
    """The least row of fields that leads from two values to unlike ones, or None if they look alike."""
    check_heap(heap, "heap")
    if not is_value_in(one, heap):
        raise InvalidArgument("one")
    if not is_value_in(other, heap):
        raise InvalidArgument("other")
    _check_size(heap)
    if not are_like(heap, one, heap, other):
        return ()
    pairs = [(one, other)]
    # How each pair was met first, as the steps of paths are told; the path to the first one is (0,).
    steps = {0: (None, 0)}
    met = {(one, other): True}
    at = 0
    while at < len(pairs):
        for field, pair in _pairs_behind(heap, pairs[at]):
            if not are_like(heap, pair[0], heap, pair[1]):
                return (*path_over(steps, at)[1:], field)
            if pair not in met:
                met[pair] = True
                steps[len(pairs)] = (at, field)
                pairs.append(pair)
        at += 1
    return None


def _pairs_behind(heap, pair):
    """The list of the fields, ascending, of two like values, with the pairs of what they hold."""
    if not is_object(pair[0]) or pair[0] == pair[1]:
        return []
    fields = heap[pair[0][1]][1]
    others = heap[pair[1][1]][1]
    return [(field, (fields[field], others[field])) for field in sorted(list(fields))]


def folded_heap(heap, roots):
    """The heap and the roots in which all objects that look alike are one."""
    check_heap_and_roots(heap, roots, "heap", "roots")
    _check_size(heap)
    firsts = _firsts_of(heap)
    folded = {}
    for number in heap:
        if firsts[number] == number:
            title, fields = heap[number]
            folded[number] = (title, {field: _look_of(fields[field], firsts) for field in fields})
    return renamed_heap(folded, [_look_of(value, firsts) for value in roots])
