"""Heaps of objects: paths from roots, and how two heaps differ."""

from backframes.errors import InvalidArgument, InvalidNumber
from backframes.heapforms import are_like, check_heap_and_roots, path_over, steps_to
from backframes.plain import is_integer, is_integer_in
from backframes.values import is_object


def value_at(heap, roots, path):
    """The value to which a path leads."""
    check_heap_and_roots(heap, roots, "heap", "roots")
    if not isinstance(path, tuple) or len(path) == 0 or not is_integer_in(path[0], 0, len(roots) - 1):
        raise InvalidArgument("path")
    value = roots[path[0]]
    for field in path[1:]:
        fields = heap[value[1]][1] if is_object(value) else {}
        if not isinstance(field, str) or field not in fields:
            raise InvalidArgument("path")
        value = fields[field]
    return value


def objects_met(heap, roots):
    """The list of the numbers of the objects to which paths lead, in the order of their least paths."""
    check_heap_and_roots(heap, roots, "heap", "roots")
    return list(steps_to(heap, roots))


def path_to(heap, roots, number):
    """The least path to an object, or None."""
    check_heap_and_roots(heap, roots, "heap", "roots")
    if not is_integer(number) or number not in heap:
        raise InvalidNumber(number)
    steps = steps_to(heap, roots)
    return path_over(steps, number) if number in steps else None


def renamed_heap(heap, roots):
    """The heap of the objects that are met, numbered in their order, and the roots."""
    check_heap_and_roots(heap, roots, "heap", "roots")
    return _renamed_over(heap, roots, list(steps_to(heap, roots)))


def _renamed_over(heap, roots, met):
    names = {number: k for k, number in enumerate(met)}
    renamed = {}
    for number in met:
        title, fields = heap[number]
        renamed[names[number]] = (title, {field: _renamed(fields[field], names) for field in fields})
    return (renamed, [_renamed(value, names) for value in roots])


def _renamed(value, names):
    return ("object", names[value[1]]) if is_object(value) else value


def matching(heap, roots, other, others):
    """A dict from the objects of one heap to those that stand in their place in the other one, or None."""
    check_heap_and_roots(heap, roots, "heap", "roots")
    check_heap_and_roots(other, others, "other", "others")
    met = list(steps_to(heap, roots))
    other_met = list(steps_to(other, others))
    if _renamed_over(heap, roots, met) != _renamed_over(other, others, other_met):
        return None
    return dict(zip(met, other_met))


def parting_paths(heap, roots, other, others):
    """A paper that shows that two heaps are not alike, or None."""
    check_heap_and_roots(heap, roots, "heap", "roots")
    check_heap_and_roots(other, others, "other", "others")
    if len(roots) != len(others):
        return ("roots",)
    return Parting(heap, other).paper(roots, others)


class Parting:
    """Two heaps that are gone through side by side, along the paths in their order.

    Each pair of objects is gone on from once, at its least path: whatever lies behind a later path
    to the same pair lies behind the least one, too.
    """

    def __init__(self, heap, other):
        self._heap = heap
        self._other = other
        # The steps to the pairs that were met, told by their numbers as steps_to tells them.
        self._steps = {}
        self._pairs = []
        self._places = {}
        self._other_places = {}

    def paper(self, roots, others):
        for k, (one, other) in enumerate(zip(roots, others)):
            paper = self._compare(one, other, (None, k))
            if paper is not None:
                return paper
        at = 0
        while at < len(self._pairs):
            one, other = self._pairs[at]
            fields = self._heap[one][1]
            for field in sorted(list(fields)):
                paper = self._compare(fields[field], self._other[other][1][field], (at, field))
                if paper is not None:
                    return paper
            at += 1
        return None

    def _compare(self, one, other, step):
        """The paper that the values behind a step give, or None."""
        if not are_like(self._heap, one, self._other, other):
            return ("value", self._path_with(step))
        if not is_object(one):
            return None
        places = [self._places.get(one[1]), self._other_places.get(other[1])]
        if places == [None, None]:
            self._note(one[1], other[1], step)
            return None
        if places[0] == places[1]:
            return None
        first = min([place for place in places if place is not None])
        return ("sharing", path_over(self._steps, first), self._path_with(step))

    def _note(self, one, other, step):
        place = len(self._pairs)
        self._places[one] = place
        self._other_places[other] = place
        self._steps[place] = step
        self._pairs.append((one, other))

    def _path_with(self, step):
        """The path that ends with a step."""
        ahead, last = step
        return (last,) if ahead is None else (*path_over(self._steps, ahead), last)
