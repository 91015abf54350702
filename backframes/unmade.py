"""Objects that are not made: which ones nobody else can tell, and how they are made after all."""

from backframes.errors import LimitExceeded
from backframes.heapforms import MOST_OBJECTS, check_heap, check_heap_and_roots, check_roots, steps_to
from backframes.unmadeforms import MOST_UNMADE, check_unmade, check_values, is_unmade
from backframes.values import copied_heap, next_number


def private_objects(heap, roots, outside):
    """The list of the objects that are met from roots, but not from outside."""
    check_heap_and_roots(heap, roots, "heap", "roots")
    check_roots(outside, heap, "outside")
    seen = steps_to(heap, outside)
    return [number for number in steps_to(heap, roots) if number not in seen]


def all_made(heap, roots, unmade):
    """The heap and the roots in which all unmade objects are made."""
    check_heap(heap, "heap")
    check_values(roots, heap, unmade, "roots")
    check_unmade(unmade, heap)
    made, told, _ = _made(heap, roots, unmade, list(unmade))
    return (made, told)


def _made(heap, roots, unmade, numbers):
    """The heap, the roots and the unmade objects once those with some numbers are made."""
    if len(heap) + len(numbers) > MOST_OBJECTS:
        raise LimitExceeded(MOST_OBJECTS)
    first = next_number(heap)
    names = {("unmade", k): ("object", first + at) for at, k in enumerate(sorted(numbers))}
    made = copied_heap(heap)
    left = {}
    for k in unmade:
        content = _renamed_content(unmade[k], names)
        if ("unmade", k) in names:
            made[names[("unmade", k)][1]] = content
        else:
            left[k] = content
    return (made, [_renamed(value, names) for value in roots], left)


def _renamed_content(content, names):
    title, fields = content
    return (title, {field: _renamed(fields[field], names) for field in fields})


def _renamed(value, names):
    return names[value] if isinstance(value, tuple) and value in names else value


def taken_apart(heap, roots, outside):
    """The heap, the roots and the unmade objects in which the private ones are not made."""
    private = private_objects(heap, roots, outside)
    if len(private) > MOST_UNMADE:
        raise LimitExceeded(MOST_UNMADE)
    names = {("object", number): ("unmade", k) for k, number in enumerate(private)}
    unmade = {k: _renamed_content(heap[number], names) for k, number in enumerate(private)}
    # What is met from roots and is not private is met from outside.
    left = {number: heap[number] for number in steps_to(heap, outside)}
    return (copied_heap(left), [_renamed(value, names) for value in roots], unmade)


def must_make(heap, unmade, values):
    """The list of the unmade objects that must be made if values get out."""
    check_heap(heap, "heap")
    check_unmade(unmade, heap)
    check_values(values, heap, unmade, "values")
    return _led_to(unmade, values)


def _led_to(unmade, values):
    """The list of the unmade objects to which values lead, those of the values themselves first."""
    met = {}
    waiting = _new_among(values, met)
    at = 0
    while at < len(waiting):
        fields = unmade[waiting[at]][1]
        waiting.extend(_new_among([fields[field] for field in sorted(list(fields))], met))
        at += 1
    return waiting


def _new_among(values, met):
    """The list of the unmade objects among values that were not met; they are noted."""
    new = []
    for value in values:
        if is_unmade(value) and value[1] not in met:
            met[value[1]] = True
            new.append(value[1])
    return new


def made_out(heap, roots, unmade, values):
    """The heap, the roots and the unmade objects once those are made to which values lead."""
    check_heap(heap, "heap")
    check_values(roots, heap, unmade, "roots")
    check_unmade(unmade, heap)
    check_values(values, heap, unmade, "values")
    return _made(heap, roots, unmade, _led_to(unmade, values))


def making_groups(heap, unmade):
    """The groups in which unmade objects can be made, in the order in which they can be."""
    check_heap(heap, "heap")
    check_unmade(unmade, heap)
    behind = {}
    for k in sorted(list(unmade)):
        behind[k] = {other: True for other in _led_to(unmade, list(unmade[k][1].values()))}
    groups = []
    for k in behind:
        group = [other for other in behind if other == k or other in behind[k] and k in behind[other]]
        if group[0] == k:
            groups.append(group)
    return _in_making_order(groups, unmade)


def _in_making_order(groups, unmade):
    """Groups by their least numbers, but each one behind all to which it leads."""
    made = {}
    ordered = []
    while len(ordered) < len(groups):
        ready = [group for group in groups if group[0] not in made and _leads_to_made(group, unmade, made)]
        ordered.append(ready[0])
        made.update({k: True for k in ready[0]})
    return ordered


def _leads_to_made(group, unmade, made):
    held = [value for k in group for value in unmade[k][1].values() if is_unmade(value)]
    return all([value[1] in made or value[1] in group for value in held])
