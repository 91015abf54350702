import random
import unittest

from backframes.errors import InvalidArgument, InvalidNumber, InvalidState
from backframes.heaps import matching, objects_met, parting_paths, path_to, renamed_heap, value_at
from tests.samples import odd_things, paths_in, with_part

RING = {4: ("box", {"next": ("object", 7), "size": 1}), 7: ("box", {"next": ("object", 4), "size": 2})}
ONE = {0: ("box", {"next": None, "size": 1})}
TWO = {0: ("box", {"next": None, "size": 1}), 1: ("box", {"next": None, "size": 1})}


def thing(number):
    return ("object", number)


def chain(many):
    """A heap in which each object leads to the one behind it."""
    return {k: ("link", {"next": thing(k + 1) if k + 1 < many else None}) for k in range(many)}


class TestExamples(unittest.TestCase):
    def test_the_examples_of_the_document(self):
        self.assertEqual([objects_met(RING, [5, thing(7)]), path_to(RING, [5, thing(7)], 4)], [[7, 4], (1, "next")])
        renamed = ({0: ("box", {"next": thing(1), "size": 1}), 1: ("box", {"next": thing(0), "size": 2})}, [thing(0)])
        self.assertEqual(renamed_heap(RING, [thing(4)]), renamed)
        told = [parting_paths(ONE, [thing(0)] * 2, TWO, [thing(0), thing(1)]), parting_paths(ONE, [3], TWO, [None])]
        self.assertEqual(told, [("sharing", (0,), (1,)), ("value", (0,))])

    def test_arguments_by_name(self):
        self.assertEqual(value_at(path=(0, "size"), roots=[thing(4)], heap=RING), 1)
        self.assertEqual(objects_met(roots=[thing(4)], heap=RING), [4, 7])
        self.assertEqual(path_to(number=4, roots=[thing(4)], heap=RING), (0,))
        self.assertEqual(renamed_heap(roots=[], heap=RING), ({}, []))
        self.assertEqual(matching(others=[thing(7)], other=RING, roots=[thing(7)], heap=RING), {4: 4, 7: 7})
        self.assertEqual(parting_paths(others=[], other=RING, roots=[1], heap=RING), ("roots",))


class TestPaths(unittest.TestCase):
    def test_values(self):
        roots = [5, thing(7), None, -(10 ** 100)]
        for path, value in (((0,), 5), ((1,), thing(7)), ((2,), None), ((3,), -(10 ** 100)), ((1, "size"), 2), ((1, "next"), thing(4)),
                            ((1, "next", "size"), 1), ((1, "next", "next", "next", "next", "size"), 2)):
            self.assertEqual(value_at(RING, roots, path), value)

    def test_paths_that_lead_to_nothing(self):
        roots = [5, thing(7), None]
        wrong = [(), (3,), (-1,), (0, "size"), (2, "next"), (1, "other"), (1, "size", "size"), (1, "next", "other"), (1, "next", "size", "next"), [1],
                 1, None, "1", (True,), (1.0,), ("1",), (1, None), (1, 1), (1, ["next"]), (1, ("next",)), (1, "next", True), {1: "next"}, ("next", 1), ((1,),)]
        for path in wrong:
            with self.assertRaises(InvalidArgument) as caught:
                value_at(RING, roots, path)
            self.assertEqual(caught.exception.part, "path")
        for odd in odd_things():
            for path in (odd, (odd,), (1, odd), (1, "next", odd)):
                with self.assertRaises(InvalidArgument):
                    value_at(RING, [] if path == (1,) else roots, path)
        with self.assertRaises(InvalidArgument):
            value_at(RING, [], (0,))

    def test_long_paths(self):
        heap = chain(2000)
        self.assertEqual(value_at(heap, [thing(0)], (0, *["next"] * 1999)), thing(1999))
        self.assertIsNone(value_at(heap, [thing(0)], (0, *["next"] * 2000)))
        self.assertEqual(path_to(heap, [thing(1), thing(0)], 0), (1,))
        self.assertEqual(path_to(heap, [thing(0)], 1999), (0, *["next"] * 1999))

    def test_the_order_of_objects(self):
        heap = {
            1: ("node", {"b": thing(3), "a": thing(5), "c": 4}), 2: ("node", {"b": thing(1), "a": thing(6), "c": 0}),
            3: ("leaf", {}), 5: ("leaf", {}), 6: ("leaf", {}), 8: ("leaf", {}),
        }
        self.assertEqual(objects_met(heap, [thing(1), thing(2)]), [1, 2, 5, 3, 6])
        self.assertEqual(objects_met(heap, [thing(2), thing(1)]), [2, 1, 6, 5, 3])
        self.assertEqual(objects_met(heap, [thing(2)]), [2, 6, 1, 5, 3])
        self.assertEqual(objects_met(heap, [thing(3), thing(2), thing(3)]), [3, 2, 6, 1, 5])
        self.assertEqual([objects_met(heap, []), objects_met(heap, [1, None])], [[], []])
        self.assertEqual([path_to(heap, [thing(2), thing(1)], number) for number in (1, 5, 6, 8)], [(1,), (1, "a"), (0, "a"), None])

    def test_field_names_are_ordered_as_strings(self):
        fields = {"b": thing(1), "a10": thing(2), "a9": thing(3), "a": thing(4)}
        heap = {0: ("node", fields), **{k: ("leaf", {}) for k in range(1, 5)}}
        self.assertEqual(objects_met(heap, [thing(0)]), [0, 4, 2, 3, 1])

    def test_many_roots(self):
        heap = {k: ("leaf", {}) for k in range(12)}
        roots = [thing(k) for k in range(11, -1, -1)]
        self.assertEqual(objects_met(heap, roots), list(range(11, -1, -1)))
        self.assertEqual(path_to(heap, roots, 1), (10,))

    def test_no_object(self):
        for number in [*odd_things(), 5, -1, "4", [4], 4.0]:
            with self.assertRaises(InvalidNumber) as caught:
                path_to(RING, [thing(4)], number)
            self.assertIs(caught.exception.number, number)


class TestRenamed(unittest.TestCase):
    def test_only_what_is_met(self):
        heap = {**RING, 1: ("pin", {"to": thing(7)}), 2: ("pin", {"to": None})}
        self.assertEqual(renamed_heap(heap, [3, thing(2), thing(2)]), ({0: ("pin", {"to": None})}, [3, thing(0), thing(0)]))
        self.assertEqual(renamed_heap(heap, [thing(1), None]), (
            {0: ("pin", {"to": thing(1)}), 1: ("box", {"next": thing(2), "size": 2}), 2: ("box", {"next": thing(1), "size": 1})}, [thing(0), None]))
        self.assertEqual([renamed_heap(heap, [7, None]), renamed_heap({}, [])], [({}, [7, None]), ({}, [])])

    def test_what_is_returned_is_new(self):
        heap = {0: ("pin", {"to": None})}
        roots = [thing(0)]
        told_heap, told_roots = renamed_heap(heap, roots)
        told_heap[0][1]["to"] = 5
        told_roots.clear()
        self.assertEqual((heap, roots), ({0: ("pin", {"to": None})}, [thing(0)]))

    def test_matching(self):
        self.assertEqual(matching(RING, [thing(4)], {1: ("box", {"size": 1, "next": thing(0)}), 0: ("box", {"next": thing(1), "size": 2})}, [thing(1)]), {4: 1, 7: 0})
        self.assertIsNone(matching(RING, [thing(4)], RING, [thing(7)]))
        self.assertIsNone(matching(RING, [thing(4)], RING, [thing(4), 1]))
        self.assertIsNone(matching(RING, [thing(4), thing(7)], RING, [thing(4), thing(4)]))
        self.assertIsNone(matching(ONE, [thing(0)] * 2, TWO, [thing(0), thing(1)]))
        self.assertEqual(matching(ONE, [thing(0)], TWO, [thing(1)]), {0: 1})
        self.assertEqual([matching(RING, [], TWO, []), matching(RING, [5, None], TWO, [5, None])], [{}, {}])
        self.assertIsNone(matching(RING, [5], TWO, [6]))

    def test_objects_that_are_not_met_do_not_matter(self):
        self.assertEqual(matching({**ONE, 5: ("pin", {})}, [thing(0)], {**ONE, 9: ("cup", {})}, [thing(0)]), {0: 0})
        self.assertIsNone(parting_paths({**ONE, 5: ("pin", {})}, [thing(0)], {**ONE, 9: ("cup", {})}, [thing(0)]))

    def test_long_chains(self):
        one = chain(2000)
        other = {1999 - k: ("link", {"next": thing(1999 - k - 1) if k + 1 < 2000 else None}) for k in range(2000)}
        self.assertEqual(matching(one, [thing(0)], other, [thing(1999)]), {k: 1999 - k for k in range(2000)})
        self.assertIsNone(parting_paths(one, [thing(0)], other, [thing(1999)]))
        other[0] = ("link", {"next": thing(1999)})
        self.assertEqual(parting_paths(one, [thing(0)], other, [thing(1999)]), ("value", (0, *["next"] * 2000)))
        one[1999] = ("link", {"next": thing(0)})
        self.assertIsNone(parting_paths(one, [thing(0)], other, [thing(1999)]))
        one[1999] = ("link", {"next": thing(3)})
        self.assertEqual(parting_paths(one, [thing(0)], other, [thing(1999)]), ("sharing", (0,), (0, *["next"] * 2000)))


class TestParting(unittest.TestCase):
    def test_more_roots(self):
        for roots, others in (([], [1]), ([1], []), ([1, 2], [3, 4, 5]), ([thing(0)], [None, None])):
            self.assertEqual(parting_paths(ONE, roots, ONE, others), ("roots",))

    def test_unlike_values(self):
        heap = {0: ("box", {"next": None, "size": 1}), 1: ("pin", {}), 2: ("box", {"next": thing(1), "size": 1})}
        other = {0: ("box", {"next": None}), 1: ("pin", {"size": 1})}
        for one, two in ((1, 2), (1, None), (None, 0), (thing(0), None), (thing(0), 0), (1, thing(1)), (thing(0), thing(0)), (thing(1), thing(1)), (thing(0), thing(1))):
            self.assertEqual(parting_paths(heap, [7, one], other, [7, two]), ("value", (1,)))
        self.assertEqual(parting_paths(heap, [thing(0)], heap, [thing(2)]), ("value", (0, "next")))
        self.assertEqual(parting_paths(heap, [thing(0)], heap, [thing(1)]), ("value", (0,)))

    def test_unlike_classes_with_the_same_fields(self):
        heap = {0: ("pin", {}), 1: ("cup", {}), 2: ("box", {"a": thing(0)}), 3: ("box", {"a": thing(1)}), 4: ("bag", {"a": thing(0)})}
        for one, other, path in ((0, 1, (0,)), (2, 3, (0, "a")), (2, 4, (0,))):
            self.assertEqual(parting_paths(heap, [thing(one)], heap, [thing(other)]), ("value", path))
            self.assertIsNone(matching(heap, [thing(one)], heap, [thing(other)]))

    def test_the_least_path(self):
        heap = {0: ("box", {"a": 1, "b": 2}), 1: ("box", {"a": 1, "b": 3}), 2: ("box", {"a": 0, "b": 3})}
        self.assertEqual(parting_paths(heap, [thing(0), 5], heap, [thing(1), 6]), ("value", (1,)))
        self.assertEqual(parting_paths(heap, [thing(0), 5], heap, [thing(1), 5]), ("value", (0, "b")))
        self.assertEqual(parting_paths(heap, [thing(0)], heap, [thing(2)]), ("value", (0, "a")))

    def test_values_come_ahead_of_sharing(self):
        heap = {0: ("box", {"a": None}), 1: ("pin", {})}
        self.assertEqual(parting_paths(heap, [thing(0), thing(0)], heap, [thing(0), thing(1)]), ("value", (1,)))
        one = {0: ("box", {"a": thing(0)}), 1: ("pin", {})}
        two = {0: ("box", {"a": thing(1)}), 1: ("pin", {})}
        self.assertEqual(parting_paths(one, [thing(0)], two, [thing(0)]), ("value", (0, "a")))

    def test_sharing_in_either_heap(self):
        heap = {k: ("pin", {}) for k in range(4)}
        for roots, others, paper in (
            ([0, 0], [0, 1], ("sharing", (0,), (1,))), ([0, 1], [0, 0], ("sharing", (0,), (1,))), ([0, 1, 0], [0, 1, 1], ("sharing", (0,), (2,))),
            ([0, 1, 1], [0, 1, 0], ("sharing", (0,), (2,))), ([0, 1, 1], [0, 1, 2], ("sharing", (1,), (2,))), ([0, 1, 2], [0, 1, 1], ("sharing", (1,), (2,))),
            ([2, 1, 0, 2], [1, 0, 3, 3], ("sharing", (0,), (3,))), ([2, 1, 0, 0], [1, 0, 3, 1], ("sharing", (0,), (3,))), ([0, 1, 0, 1], [1, 0, 1, 0], None),
        ):
            self.assertEqual(parting_paths(heap, [thing(k) for k in roots], heap, [thing(k) for k in others]), paper)

    def test_rings(self):
        one = {0: ("box", {"next": thing(0)})}
        two = {0: ("box", {"next": thing(1)}), 1: ("box", {"next": thing(0)})}
        self.assertEqual(parting_paths(one, [thing(0)], two, [thing(0)]), ("sharing", (0,), (0, "next")))
        self.assertEqual(parting_paths(two, [thing(1)], one, [thing(0)]), ("sharing", (0,), (0, "next")))
        self.assertIsNone(parting_paths(two, [thing(1)], two, [thing(0)]))
        three = {k: ("box", {"next": thing((k + 1) % 3)}) for k in range(3)}
        self.assertEqual(parting_paths(two, [thing(1)], three, [thing(0)]), ("sharing", (0,), (0, "next", "next")))


def slow_paths(heap, roots, most):
    """All paths of at most so many parts, with their values, in their order."""
    found = []
    last = [((k,), value) for k, value in enumerate(roots)]
    while last and len(last[0][0]) <= most:
        found += sorted(last, key=lambda pair: pair[0])
        last = [((*path, field), inner) for path, value in last if isinstance(value, tuple) for field, inner in heap[value[1]][1].items()]
    return found


def slow_parting(heap, roots, other, others, most):
    """The paper that is found by looking at all paths of at most so many parts, one by one."""
    if len(roots) != len(others):
        return ("roots",)
    two = dict(slow_paths(other, others, most))
    ahead = []
    for path, value in slow_paths(heap, roots, most):
        if path not in two:
            continue
        match = two[path]
        if isinstance(value, tuple) != isinstance(match, tuple):
            return ("value", path)
        if not isinstance(value, tuple):
            if value != match:
                return ("value", path)
            continue
        title, fields = heap[value[1]]
        if title != other[match[1]][0] or set(fields) != set(other[match[1]][1]):
            return ("value", path)
        for before, first, second in ahead:
            if (first == value) != (second == match):
                return ("sharing", before, path)
        ahead.append((path, value, match))
    return None


def random_heap(chance, many):
    numbers = chance.sample(range(10), many)
    heap = {}
    for number in numbers:
        title = chance.choice(["pin", "box", "box", "box"])
        value = chance.choice([None, *[thing(other) for other in numbers] * 2])
        fields = {} if title == "pin" else {"b": value, "a": chance.choice([0, 0, 0, 1, thing(chance.choice(numbers))])}
        heap[number] = (title, fields)
    roots = [chance.choice([0, None, *[thing(number) for number in numbers] * 2]) for _ in range(chance.randint(1, 3))]
    return heap, roots


class TestRandom(unittest.TestCase):
    def test_paths(self):
        chance = random.Random(51)
        for _ in range(300):
            heap, roots = random_heap(chance, chance.randint(0, 4))
            order = {}
            for path, value in slow_paths(heap, roots, 5):
                self.assertEqual(value_at(heap, roots, path), value)
                if isinstance(value, tuple):
                    order.setdefault(value[1], path)
            self.assertEqual(objects_met(heap, roots), list(order))
            self.assertEqual([path_to(heap, roots, number) for number in heap], [order.get(number) for number in heap])

    def test_papers(self):
        chance = random.Random(53)
        words = {"value": 0, "sharing": 0, None: 0}
        for _ in range(3000):
            heap, roots = random_heap(chance, chance.randint(1, 3))
            other, others = random_heap(chance, chance.randint(1, 3))
            if chance.random() < 0.6:
                other, others = renamed_heap(heap, roots)
                if other and chance.random() < 0.7:
                    number = chance.choice(list(other))
                    fields = other[number][1]
                    if fields:
                        fields[chance.choice("ab")] = chance.choice([0, None, *[thing(k) for k in other]])
            paper = slow_parting(heap, roots, other, others, 5)
            told = parting_paths(heap, roots, other, others)
            self.assertEqual(told, paper if paper else told if told and len(told[-1]) > 5 else None)
            self.assertEqual(told is None, renamed_heap(heap, roots) == renamed_heap(other, others))
            self.assertEqual(told is None, matching(heap, roots, other, others) is not None)
            if told is None:
                self.assertEqual(matching(heap, roots, other, others), dict(zip(objects_met(heap, roots), objects_met(other, others))))
            if told is None or told[0] != "roots":
                words[told and told[0]] += 1
        self.assertGreater(min(words.values()), 50, words)


class TestWrong(unittest.TestCase):
    ASKS = (
        lambda heap, roots: value_at(heap, roots, None), objects_met, lambda heap, roots: path_to(heap, roots, None), renamed_heap,
        lambda heap, roots: matching(heap, roots, None, None), lambda heap, roots: parting_paths(heap, roots, None, None),
    )
    PAIRS = (matching, parting_paths)

    def wrong(self, part, heap, roots):
        for ask in self.ASKS:
            with self.assertRaises(InvalidState) as caught:
                ask(heap, roots)
            self.assertEqual(caught.exception.part, part)
        for ask in self.PAIRS:
            with self.assertRaises(InvalidState) as caught:
                ask(RING, [1, 2], heap, roots)
            self.assertEqual(caught.exception.part, {"heap": "other", "roots": "others"}[part])

    def test_heaps(self):
        wrong = [
            {-1: ("pin", {})}, {True: ("pin", {})}, {1.0: ("pin", {})}, {"1": ("pin", {})}, {None: ("pin", {})}, {0: ["pin", {}]}, {0: ("pin",)},
            {0: ("pin", {}, {})}, {0: ("Pin", {})}, {0: ("abcdefghi", {})}, {0: (None, {})}, {0: ("pin", [])}, {0: ("pin", None)}, {0: ("pin", {"A": 1})},
            {0: ("pin", {1: 1})}, {0: ("pin", {None: 1})}, {0: ("pin", {"a": True})}, {0: ("pin", {"a": 1.0})}, {0: ("pin", {"a": "b"})},
            {0: ("pin", {"a": thing(1)})}, {0: ("pin", {"a": ("object", True)}), 1: ("cup", {})}, {0: ("pin", {"a": ["object", 0]})},
            {0: ("pin", {"a": ("object", 0.0)})}, {0: ("pin", {"a": ("unmade", 0)})}, {0: ("pin", {"a": ("object", 0, 0)})},
            {0: ("pin", {"a": 1}), 1: ("pin", {})}, {0: ("pin", {}), 1: ("pin", {"a": 1})}, {0: ("pin", {"a": 1}), 1: ("pin", {"b": 1})},
            {0: None}, [("pin", {})], [], None, (), 0, "heap",
        ]
        for heap in [*wrong, *[odd for odd in odd_things() if odd != {}]]:
            for roots in ([1], None):
                self.wrong("heap", heap, roots)
        self.assertEqual(objects_met({0: ("pin", {"a": 1}), 1: ("cup", {"b": 1}), 2: ("pin", {"a": None}), 3: ("cup", {"b": thing(3)})}, []), [])

    def test_two_thousand_objects(self):
        self.assertEqual(len(objects_met(chain(2000), [thing(0)])), 2000)
        self.wrong("heap", chain(2001), None)

    def test_great_numbers(self):
        heap = {10 ** 30: ("pin", {"a": 10 ** 100, "b": thing(10 ** 30)})}
        self.assertEqual(objects_met(heap, [thing(10 ** 30)]), [10 ** 30])
        self.assertEqual(value_at(heap, [thing(10 ** 30)], (0, "b", "a")), 10 ** 100)

    def test_roots(self):
        wrong = [None, (), (thing(4),), {}, 4, thing(4), [thing(5)], [True], [1.0], ["a"], [()], [("object",)], [("object", True)], [("object", -1)],
                 [["object", 4]], [("unmade", 4)], [thing(4), thing(0)], [[thing(4)]], [("object", 4.0)], [("Object", 4)]]
        for roots in [*wrong, *[odd for odd in odd_things() if odd != [None]]]:
            self.wrong("roots", RING, roots)
        for odd in odd_things():
            if odd is not None and (not isinstance(odd, int) or isinstance(odd, bool)):
                self.wrong("roots", RING, [4, odd])
        self.wrong("roots", {}, [thing(0)])

    def test_which_is_first(self):
        for ask in self.PAIRS:
            for arguments, part in (((None, None, None, None), "heap"), ((RING, None, None, None), "roots"), ((RING, [1], None, None), "other"),
                                    ((RING, [], RING, None), "others"), ((RING, [1], RING, [thing(3)]), "others"), ((RING, [thing(3)], None, []), "roots")):
                with self.assertRaises(InvalidState) as caught:
                    ask(*arguments)
                self.assertEqual(caught.exception.part, part)

    def test_anything_in_the_place_of_any_part(self):
        for odd in odd_things():
            for path in paths_in(RING):
                try:
                    heap = with_part(RING, path, odd)
                    objects_met(heap, [1])
                    self.assertTrue(odd is None or path[2:] and isinstance(odd, int) and not isinstance(odd, bool) or odd == {}, (path, odd))
                except InvalidState as caught:
                    self.assertEqual(caught.part, "heap")

    def test_nothing_changes(self):
        heap, roots = {**RING}, [thing(4), 1]
        for ask in (objects_met, renamed_heap, lambda heap, roots: parting_paths(heap, roots, heap, roots), lambda heap, roots: matching(heap, roots, heap, roots)):
            ask(heap, roots)
        self.assertEqual((heap, roots), (RING, [thing(4), 1]))


if __name__ == "__main__":
    unittest.main()
