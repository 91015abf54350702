import itertools
import random
import unittest

from backframes.errors import InvalidArgument, InvalidState, LimitExceeded
from backframes.heaps import matching, objects_met, renamed_heap, value_at
from backframes.twins import folded_heap, look_alikes, told_apart
from tests.samples import odd_things, paths_in, with_part


def thing(number):
    return ("object", number)


def box(following, size=1):
    return ("box", {"next": following, "size": size})


ROW = {0: box(thing(1)), 1: box(thing(0))}


def ring(numbers, size=1):
    return {k: box(thing(numbers[(at + 1) % len(numbers)]), size) for at, k in enumerate(numbers)}


class TestExamples(unittest.TestCase):
    def test_the_example_of_the_document(self):
        self.assertEqual([look_alikes(ROW), told_apart(ROW, thing(0), thing(1)), told_apart(ROW, thing(0), None)], [[[0, 1]], None, ()])

    def test_arguments_by_name(self):
        self.assertEqual(look_alikes(heap=ROW), [[0, 1]])
        self.assertEqual(told_apart(other=thing(1), one=3, heap=ROW), ())
        self.assertEqual(folded_heap(roots=[thing(1)], heap=ROW), ({0: box(thing(0))}, [thing(0)]))


class TestLookAlikes(unittest.TestCase):
    def test_plain_objects(self):
        self.assertEqual(look_alikes({}), [])
        heap = {9: box(None), 4: box(None, 2), 2: box(None), 7: ("pin", {}), 1: ("pin", {}), 5: ("box", {"next": None, "size": None}), 3: box(3)}
        self.assertEqual(look_alikes(heap), [[1, 7], [2, 9], [3], [4], [5]])

    def test_classes_and_fields(self):
        heap = {0: ("one", {"next": None}), 1: ("two", {"next": None}), 2: ("one", {"next": None})}
        self.assertEqual(look_alikes(heap), [[0, 2], [1]])

    def test_rings(self):
        heap = {**ring([0, 2]), **ring([1, 5, 3]), **ring([4]), 6: box(thing(5)), **ring([7, 8], 2)}
        self.assertEqual(look_alikes(heap), [[0, 1, 2, 3, 4, 5, 6], [7, 8]])
        self.assertEqual(folded_heap(heap, [thing(7), thing(6), thing(4), 3]), ({0: box(thing(0), 2), 1: box(thing(1))}, [thing(0), thing(1), thing(1), 3]))

    def test_what_is_told_apart_far_away(self):
        heap = {k: box(thing(k + 1)) for k in range(10)}
        heap[10] = box(None)
        heap.update({k: box(thing(k + 1)) for k in range(20, 30)})
        heap[30] = box(None)
        self.assertEqual(look_alikes(heap), [[k, k + 20] for k in range(11)])
        heap[30] = box(None, 2)
        self.assertEqual(look_alikes(heap), [[k] for k in sorted(heap)])
        self.assertEqual(told_apart(heap, thing(0), thing(20)), ("next",) * 10 + ("size",))
        self.assertEqual(told_apart(heap, thing(0), thing(21)), ("next",) * 10)


class TestToldApart(unittest.TestCase):
    def test_plain_values(self):
        pairs = [(3, 3, None), (None, None, None), (3, 4, ()), (0, None, ()), (None, thing(0), ()), (thing(1), 1, ()), (10 ** 70, 10 ** 70, None), (thing(1), thing(1), None)]
        for one, other, told in pairs:
            self.assertEqual([told_apart(ROW, one, other), told_apart(ROW, other, one)], [told, told])

    def test_the_least_row(self):
        heap = {0: ("two", {"l": thing(2), "r": thing(4)}), 1: ("two", {"l": thing(3), "r": thing(4)}), 2: ("two", {"l": None, "r": 1}), 3: ("two", {"l": None, "r": 2}),
                4: ("two", {"l": None, "r": 2}), 5: ("two", {"l": thing(2), "r": thing(2)})}
        self.assertEqual([told_apart(heap, thing(0), thing(1)), told_apart(heap, thing(0), thing(5)), told_apart(heap, thing(0), thing(2))], [("l", "r"), ("r", "r"), ("l",)])

    def test_two_values_may_be_one_object_further_on(self):
        heap = {0: box(thing(2)), 1: box(thing(2)), 2: box(thing(0), 5)}
        self.assertIsNone(told_apart(heap, thing(0), thing(1)))

    def test_field_names_are_ordered_as_strings(self):
        heap = {0: ("two", {"b": 1, "a1": 1, "a": None}), 1: ("two", {"a": None, "b": 2, "a1": 2})}
        self.assertEqual(told_apart(heap, thing(0), thing(1)), ("a1",))

    def test_rings_of_unlike_lengths(self):
        heap = {**ring(list(range(149))), **ring(list(range(149, 300)))}
        self.assertIsNone(told_apart(heap, thing(0), thing(200)))
        self.assertEqual(len(look_alikes(heap)), 1)
        heap[299] = box(thing(149), 2)
        self.assertEqual(len(told_apart(heap, thing(0), thing(200))), 100)


class TestGreatHeaps(unittest.TestCase):
    def test_three_hundred_objects(self):
        heap = {k: box(thing(k + 1) if k < 299 else None) for k in range(300)}
        self.assertEqual(look_alikes(heap), [[k] for k in range(300)])
        self.assertEqual(told_apart(heap, thing(0), thing(1)), ("next",) * 299)
        self.assertEqual(folded_heap(heap, [thing(0)]), (heap, [thing(0)]))
        heap[300] = box(None)
        for call in (lambda: look_alikes(heap), lambda: told_apart(heap, 1, 1), lambda: folded_heap(heap, [])):
            with self.assertRaises(LimitExceeded) as caught:
                call()
            self.assertEqual(caught.exception.limit, 300)

    def test_two_thousand_objects_are_a_heap(self):
        heap = {k: box(None) for k in range(2001)}
        for call in (lambda: look_alikes(heap), lambda: told_apart(heap, "x", "x"), lambda: folded_heap(heap, "x")):
            with self.assertRaises(InvalidState) as caught:
                call()
            self.assertEqual(caught.exception.part, "heap")


class TestFolded(unittest.TestCase):
    def test_only_what_is_met(self):
        heap = {3: box(None, 7), 5: box(thing(3)), 6: box(thing(9)), 9: box(None, 7), 10: box(None, 8)}
        self.assertEqual(folded_heap(heap, [thing(6), thing(5), None]), ({0: box(thing(1)), 1: box(None, 7)}, [thing(0), thing(0), None]))
        self.assertEqual([folded_heap(heap, []), folded_heap({}, [4])], [({}, []), ({}, [4])])

    def test_what_is_returned_is_new(self):
        heap = {**ring([0, 1])}
        for inner in look_alikes(heap):
            inner.clear()
        told = folded_heap(heap, [thing(0)])
        told[0][0][1].clear()
        told[1].clear()
        self.assertEqual([look_alikes(heap), heap], [[[0, 1]], ring([0, 1])])


def wild_heap(chance):
    numbers = chance.sample(range(20), chance.randint(1, 8))
    shapes = {"one": ["next", "size"], "two": ["l", "r"]}

    def value():
        return chance.choice([None, 0, *[thing(number) for number in numbers]])

    heap = {}
    for number in numbers:
        title = chance.choice(["one", "one", "two"])
        heap[number] = (title, {field: value() for field in chance.sample(shapes[title], 2)})
    return heap, value


def look_of(heap, value, depth):
    """What is seen of a value along all rows of so many fields."""
    if not isinstance(value, tuple):
        return repr(value)
    title, fields = heap[value[1]]
    return (title, *[(field, look_of(heap, fields[field], depth - 1) if depth else "") for field in sorted(fields)])


class TestRandom(unittest.TestCase):
    def test_look_alikes_against_what_is_seen(self):
        for seed in range(150):
            heap, _ = wild_heap(random.Random(seed))
            looks = {}
            for number in sorted(heap):
                looks.setdefault(look_of(heap, thing(number), len(heap)), []).append(number)
            self.assertEqual(look_alikes(heap), list(looks.values()))

    def test_rows_that_tell_apart(self):
        for seed in range(150):
            heap, _ = wild_heap(random.Random(seed))
            groups = {number: at for at, group in enumerate(look_alikes(heap)) for number in group}
            for one, other in itertools.product(sorted(heap), repeat=2):
                row = told_apart(heap, thing(one), thing(other))
                self.assertEqual(row is None, groups[one] == groups[other])
                if row is not None:
                    self.assertEqual(row, self.least_row(heap, one, other))

    def least_row(self, heap, one, other):
        """The least row of fields, found by trying all."""
        rows = [()]
        while True:
            following = []
            for row in rows:
                values = [value_at(heap, [thing(number)], (0, *row)) for number in (one, other)]
                if look_of(heap, values[0], 0) != look_of(heap, values[1], 0):
                    return row
                if isinstance(values[0], tuple):
                    following.extend((*row, field) for field in sorted(heap[values[0][1]][1]))
            rows = following

    def test_no_heap_with_fewer_objects(self):
        """Fact 58: no two objects of the folded heap look alike, and it looks as the heap did."""
        for seed in range(200):
            heap, value = wild_heap(random.Random(seed))
            roots = [value() for _ in range(3)]
            folded, told = folded_heap(heap, roots)
            self.assertEqual(look_alikes(folded), [[number] for number in sorted(folded)])
            self.assertEqual([look_of(folded, root, 7) for root in told], [look_of(heap, root, 7) for root in roots])
            self.assertEqual((folded, told), renamed_heap(folded, told))
            groups = [group for group in look_alikes(heap) if any(number in objects_met(heap, roots) for number in group)]
            self.assertEqual(len(folded), len(groups))
            self.assertIsNotNone(matching(*folded_heap(folded, told), folded, told))


class TestWrong(unittest.TestCase):
    def test_heaps_and_roots(self):
        for odd in odd_things():
            if not (isinstance(odd, dict) and len(odd) == 0):
                for call in (lambda: look_alikes(odd), lambda: told_apart(odd, odd, odd), lambda: folded_heap(odd, odd)):
                    with self.assertRaises(InvalidState) as caught:
                        call()
                    self.assertEqual(caught.exception.part, "heap")
            if not isinstance(odd, list) or odd != [None]:
                with self.assertRaises(InvalidState) as caught:
                    folded_heap(ROW, odd)
                self.assertEqual(caught.exception.part, "roots")

    def test_values(self):
        great = {k: box(None) for k in range(301)}
        for odd in [*odd_things(), thing(2000), ("unmade", 0), [thing(0)], ("object", 0, 0)]:
            if odd is None or isinstance(odd, int) and not isinstance(odd, bool):
                continue
            for heap in (ROW, great):
                with self.assertRaises(InvalidArgument) as caught:
                    told_apart(heap, odd, odd)
                self.assertEqual(caught.exception.part, "one")
                with self.assertRaises(InvalidArgument) as caught:
                    told_apart(heap, 4, odd)
                self.assertEqual(caught.exception.part, "other")

    def test_which_is_first(self):
        great = {k: box(None) for k in range(301)}
        with self.assertRaises(InvalidState):
            folded_heap(great, [thing(301)])
        with self.assertRaises(LimitExceeded):
            folded_heap(great, [thing(300)])

    def test_anything_in_the_place_of_any_part(self):
        for path in paths_in(ROW):
            for odd in odd_things():
                wrong = with_part(ROW, path, odd)
                try:
                    self.assertEqual([len(group) > 0 for group in look_alikes(wrong)], [True] * len(look_alikes(wrong)))
                except InvalidState as error:
                    self.assertEqual(error.part, "heap")


if __name__ == "__main__":
    unittest.main()
