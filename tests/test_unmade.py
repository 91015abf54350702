import random
import unittest

from backframes.errors import InvalidState, LimitExceeded
from backframes.heaps import matching, objects_met, renamed_heap
from backframes.unmade import all_made, made_out, making_groups, must_make, private_objects, taken_apart
from tests.samples import odd_things, paths_in, with_part

RING = {4: ("box", {"next": ("object", 7), "size": 1}), 7: ("box", {"next": ("object", 4), "size": 2})}


def thing(number):
    return ("object", number)


def part(number):
    return ("unmade", number)


def box(following, size=0):
    return ("box", {"next": following, "size": size})


def link(following):
    return ("link", {"next": following})


class TestExamples(unittest.TestCase):
    def test_the_examples_of_the_document(self):
        told = all_made({3: ("pin", {})}, [part(5)], {5: box(part(5))})
        self.assertEqual(told, ({3: ("pin", {}), 4: box(thing(4))}, [thing(4)]))
        told = made_out({}, [part(0)], {0: box(part(1)), 1: box(None, 7)}, [part(1)])
        self.assertEqual(told, ({0: box(None, 7)}, [part(0)], {0: box(thing(0))}))
        parts = {0: link(part(2)), 1: link(None), 2: link(part(3)), 3: link(part(2))}
        self.assertEqual(making_groups({}, parts), [[1], [2, 3], [0]])

    def test_arguments_by_name(self):
        self.assertEqual(private_objects(outside=[], roots=[thing(7)], heap=RING), [7, 4])
        self.assertEqual(all_made(unmade={}, roots=[1], heap={}), ({}, [1]))
        self.assertEqual(taken_apart(outside=[], roots=[2], heap=RING), ({}, [2], {}))
        self.assertEqual(must_make(values=[part(0)], unmade={0: link(None)}, heap={}), [0])
        self.assertEqual(made_out(values=[], unmade={}, roots=[None], heap={}), ({}, [None], {}))
        self.assertEqual(making_groups(unmade={}, heap=RING), [])


class TestPrivate(unittest.TestCase):
    def test_rings(self):
        self.assertEqual(private_objects(RING, [thing(7)], []), [7, 4])
        self.assertEqual(private_objects(RING, [thing(7)], [thing(4)]), [])
        self.assertEqual(private_objects(RING, [], []), [])
        self.assertEqual(private_objects({}, [3, None], [None, 5]), [])

    def test_objects_that_are_shared(self):
        heap = {0: box(thing(1)), 1: box(thing(2)), 2: box(thing(1)), 3: box(thing(2)), 4: box(thing(0)), 5: box(None)}
        self.assertEqual(private_objects(heap, [thing(4), thing(5)], [thing(3)]), [4, 5, 0])
        self.assertEqual(private_objects(heap, [thing(5), thing(4)], [4, None]), [5, 4, 0, 1, 2])
        self.assertEqual(private_objects(heap, [thing(4)], [thing(0)]), [4])

    def test_in_the_order_of_objects_met(self):
        heap = {0: ("two", {"b": thing(2), "a": thing(3)}), 2: ("two", {"b": None, "a": None}), 3: ("two", {"b": thing(4), "a": None}), 4: ("two", {"b": None, "a": None})}
        self.assertEqual(private_objects(heap, [thing(0)], [thing(2)]), [0, 3, 4])


class TestMaking(unittest.TestCase):
    def test_numbers_behind_the_greatest_one(self):
        parts = {9: link(part(2)), 2: link(thing(30)), 5: link(part(9))}
        heap = {30: link(None), 4: link(thing(30))}
        made = {**heap, 31: link(thing(30)), 32: link(thing(33)), 33: link(thing(31))}
        self.assertEqual(all_made(heap, [part(9), thing(4), 7, None, part(2)], parts), (made, [thing(33), thing(4), 7, None, thing(31)]))

    def test_objects_to_which_nothing_refers(self):
        self.assertEqual(all_made({}, [], {3: link(None), 1: link(part(3))}), ({0: link(thing(1)), 1: link(None)}, []))
        self.assertEqual(all_made({}, [], {}), ({}, []))
        self.assertEqual(all_made(RING, [thing(4)], {}), (RING, [thing(4)]))

    def test_two_thousand_objects(self):
        heap = {k: link(thing(k + 1) if k < 1799 else None) for k in range(1800)}
        parts = {k: link(part(k + 1) if k < 199 else thing(0)) for k in range(200)}
        made, roots = all_made(heap, [part(0)], parts)
        self.assertEqual([len(made), len(objects_met(made, roots)), roots], [2000, 2000, [thing(1800)]])
        heap[1800] = link(thing(0))
        for call in (lambda: all_made(heap, [part(0)], parts), lambda: made_out(heap, [], parts, [part(0)])):
            with self.assertRaises(LimitExceeded) as caught:
                call()
            self.assertEqual(caught.exception.limit, 2000)
        made, _, left = made_out(heap, [], parts, [part(1)])
        self.assertEqual([len(made), left], [2000, {0: link(thing(1801))}])

    def test_what_must_be_made(self):
        parts = {0: ("two", {"b": part(4), "a": part(3)}), 3: ("two", {"b": part(0), "a": 5}), 4: ("two", {"b": part(3), "a": part(6)}), 6: ("two", {"b": None, "a": None}),
                 1: ("two", {"b": part(0), "a": None})}
        self.assertEqual(must_make({}, parts, [part(0)]), [0, 3, 4, 6])
        self.assertEqual(must_make({}, parts, [3, part(4), None, part(1), part(4)]), [4, 1, 6, 3, 0])
        self.assertEqual(must_make({}, parts, [part(6)]), [6])
        self.assertEqual([must_make(RING, parts, [thing(4), 3, None]), must_make({}, {}, [])], [[], []])

    def test_those_behind_each_one_in_turn(self):
        parts = {k: ("two", {"l": part(2 * k + 1), "r": part(2 * k + 2)}) for k in range(3)}
        parts.update({k: ("two", {"l": None, "r": None}) for k in range(3, 7)})
        self.assertEqual(must_make({}, parts, [part(0)]), [0, 1, 2, 3, 4, 5, 6])
        self.assertEqual(must_make({}, parts, [part(2), part(0)]), [2, 0, 5, 6, 1, 3, 4])

    def test_long_rows(self):
        parts = {k: link(part(k - 1) if k else None) for k in range(200)}
        self.assertEqual(must_make({}, parts, [part(199)]), list(range(199, -1, -1)))
        made, roots, left = made_out({}, [part(150), part(10)], parts, [part(99)])
        self.assertEqual([len(made), roots, sorted(left)], [100, [part(150), thing(10)], list(range(100, 200))])
        self.assertEqual([left[100], left[101]], [link(thing(99)), link(part(100))])
        self.assertEqual(making_groups({}, parts), [[k] for k in range(200)])

    def test_nothing_gets_out(self):
        parts = {0: link(part(0))}
        self.assertEqual(made_out(RING, [part(0)], parts, [thing(4), 5]), (RING, [part(0)], parts))

    def test_groups(self):
        self.assertEqual(making_groups({}, {}), [])
        self.assertEqual(making_groups({}, {5: link(part(5)), 2: link(part(5))}), [[5], [2]])
        parts = {0: link(part(4)), 4: link(part(8)), 8: link(part(4)), 1: link(part(2)), 2: link(None), 3: link(part(0)), 9: link(part(3))}
        self.assertEqual(making_groups({}, parts), [[2], [1], [4, 8], [0], [3], [9]])
        ring = {k: link(part((k + 1) % 200)) for k in range(200)}
        self.assertEqual(making_groups({}, ring), [list(range(200))])

    def test_the_least_number_that_may_come_next(self):
        parts = {1: link(part(7)), 7: link(None), 3: link(None), 5: link(part(1))}
        self.assertEqual(making_groups({}, parts), [[3], [7], [1], [5]])


class TestTakenApart(unittest.TestCase):
    def test_private_objects(self):
        heap = {**RING, 9: box(thing(4), 9), 11: box(None), 12: box(thing(11))}
        told = taken_apart(heap, [thing(9), 5, thing(11), None], [thing(11)])
        parts = {0: box(part(1), 9), 1: box(part(2), 1), 2: box(part(1), 2)}
        self.assertEqual(told, ({11: box(None)}, [part(0), 5, thing(11), None], parts))

    def test_private_objects_that_lead_outside(self):
        heap = {0: box(thing(1)), 1: box(thing(2)), 2: box(None), 3: box(thing(1))}
        self.assertEqual(taken_apart(heap, [thing(0), thing(0)], [thing(3)]),
                         ({1: box(thing(2)), 2: box(None), 3: box(thing(1))}, [part(0), part(0)], {0: box(thing(1))}))

    def test_nothing_private(self):
        self.assertEqual(taken_apart(RING, [thing(4)], [thing(7)]), (RING, [thing(4)], {}))
        self.assertEqual(taken_apart({}, [], []), ({}, [], {}))

    def test_two_hundred(self):
        for many in (200, 201):
            heap = {k: link(thing(k + 1) if k + 1 < many else None) for k in range(many)}
            if many == 200:
                told = taken_apart(heap, [thing(0)], [])
                self.assertEqual([told[0], told[1], told[2][199]], [{}, [part(0)], link(None)])
                continue
            with self.assertRaises(LimitExceeded) as caught:
                taken_apart(heap, [thing(0)], [])
            self.assertEqual(caught.exception.limit, 200)
            self.assertEqual(len(taken_apart(heap, [thing(0)], [thing(200)])[2]), 200)

    def test_long_rows(self):
        heap = {k: link(thing(k + 1) if k < 1999 else None) for k in range(2000)}
        self.assertEqual(private_objects(heap, [thing(0)], [thing(100)]), list(range(100)))
        told = taken_apart(heap, [thing(0)], [thing(100)])
        self.assertEqual([len(told[0]), len(told[2])], [1900, 100])


def wild_heap(chance, many=7):
    """A heap with a few unmade objects beside it."""
    numbers = chance.sample(range(20), chance.randint(0, many))
    names = chance.sample(range(20), chance.randint(0, many))
    shapes = {"one": ["next", "size"], "two": ["l", "r"]}

    def value(parts):
        choices = [None, chance.randint(-1, 1), *[thing(number) for number in numbers]]
        return chance.choice([*choices, *[part(name) for name in names]] if parts else choices)

    def content(parts):
        title = chance.choice(["one", "two"])
        return (title, {field: value(parts) for field in chance.sample(shapes[title], 2)})

    heap = {number: content(False) for number in numbers}
    unmade = {name: content(True) for name in names}
    return heap, unmade, value


class TestRandom(unittest.TestCase):
    def test_what_was_taken_apart_is_made_again(self):
        """Fact 56."""
        for seed in range(300):
            heap, _, value = wild_heap(random.Random(seed))
            roots, outside = [value(False) for _ in range(3)], [value(False) for _ in range(seed % 3)]
            apart = taken_apart(heap, roots, outside)
            private = private_objects(heap, roots, outside)
            self.assertEqual([len(apart[2]), [number in apart[0] for number in private]], [len(private), [False] * len(private)])
            made, told = all_made(*apart)
            self.assertIsNotNone(matching(heap, roots + outside, made, told + outside))

    def test_values_that_get_out_one_by_one(self):
        """Fact 57."""
        for seed in range(300):
            heap, unmade, value = wild_heap(random.Random(seed))
            values = [value(True) for _ in range(3)]
            at_once = made_out(heap, values, unmade, values)
            self.assertEqual(must_make(heap, unmade, values), [k for k in must_make(heap, unmade, values) if k not in at_once[2]])
            self.assertEqual(len(at_once[2]) + len(must_make(heap, unmade, values)), len(unmade))
            state = (heap, values, unmade)
            for k in range(len(values)):
                state = made_out(*state, [state[1][k]])
            self.assertEqual([renamed_heap(*state[:2]), sorted(state[2])], [renamed_heap(*at_once[:2]), sorted(at_once[2])])
            self.assertIsNotNone(matching(*all_made(*state), *all_made(*at_once)))
            self.assertIsNotNone(matching(*all_made(heap, values, unmade), *all_made(*at_once)))

    def test_groups_can_be_made_in_their_order(self):
        for seed in range(300):
            heap, unmade, _ = wild_heap(random.Random(seed))
            groups = making_groups(heap, unmade)
            self.assertEqual(sorted(sum(groups, [])), sorted(unmade))
            behind = {k: must_make(heap, unmade, list(unmade[k][1].values())) for k in unmade}
            for at, group in enumerate(groups):
                made = sum(groups[:at + 1], [])
                self.assertEqual(group, sorted(group))
                for k in group:
                    self.assertTrue(all(other in made for other in behind[k]))
                    self.assertTrue(all(other in behind[k] for other in group) or len(group) == 1)
                for later in groups[at + 1:]:
                    ready = all(other in sum(groups[:at], []) + later for k in later for other in behind[k])
                    self.assertTrue(not ready or group[0] < later[0])

    def test_nothing_changes(self):
        for seed in range(50):
            chance = random.Random(seed)
            heap, unmade, value = wild_heap(chance)
            again, unmade_again, _ = wild_heap(random.Random(seed))
            values = [value(True) for _ in range(3)]
            roots = [value(False) for _ in range(3)]
            for told in (all_made(heap, values, unmade), taken_apart(heap, roots, []), made_out(heap, values, unmade, values[:1])):
                for inner in told:
                    for content in inner.values() if isinstance(inner, dict) else []:
                        content[1].clear()
                    inner.clear()
            self.assertEqual([heap, unmade], [again, unmade_again])


CALLS = {
    private_objects: ("heap", "roots", "outside"),
    taken_apart: ("heap", "roots", "outside"),
    all_made: ("heap", "roots", "unmade"),
    must_make: ("heap", "unmade", "values"),
    made_out: ("heap", "roots", "unmade", "values"),
    making_groups: ("heap", "unmade"),
}


class TestWrong(unittest.TestCase):
    GOOD = {"heap": RING, "roots": [thing(4), 5], "outside": [None], "unmade": {3: box(part(3)), 0: box(thing(7), 2)}, "values": [1, thing(7)]}

    def raises(self, call, arguments, name):
        with self.assertRaises(InvalidState) as caught:
            call(**arguments)
        self.assertEqual(caught.exception.part, name)

    def arguments(self, call, **other):
        return {name: other.get(name, self.GOOD[name]) for name in CALLS[call]}

    def test_each_argument(self):
        wrong = {
            "heap": [{0: part(3)}, {0: box(part(3))}, {-1: box(None)}, {0: box(thing(1))}, {True: box(None)}, {0: box(True)}, {0: ("Box", {})}, {0: box(None), 1: ("box", {})}],
            "roots": [[thing(5)], [True], [("object", True)], (thing(4),), [[]], [("part", 3)], [1.0]],
            "outside": [[thing(5)], [part(3)], [False]],
            "unmade": [{3: box(part(4))}, {-1: box(None)}, {True: box(None)}, {3: box(thing(5))}, {3: ("box", {})}, {3: link(None), 4: ("link", {})}, {3: ("Box", {})},
                       {3: ["pin", {}]}, {3: ("pin", [])}, {3: ("pin", {"Zz": 1})}, {3: box(False)}, {3: box(("unmade", True))}, [], {k: ("pin", {}) for k in range(201)}],
            "values": [[thing(5)], [part(9)], [("unmade", False)], [("unmade", -1)], [("unmade", 3, 3)], [True], None],
        }
        for call, names in CALLS.items():
            for at, name in enumerate(names):
                for odd in [*wrong[name], *[odd for odd in odd_things() if not isinstance(odd, list) or odd != [None]]]:
                    later = {other: odd for other in names[at:]}
                    self.raises(call, self.arguments(call, **later), name)
                    self.raises(call, self.arguments(call, **{name: odd}), name)

    def test_unmade_objects_in_roots(self):
        for call in (all_made, made_out):
            for unmade in ({}, None, [], 3, {1: box(None)}, {3.5: box(None)}, {"3": box(None)}):
                self.raises(call, self.arguments(call, roots=[part(3)], unmade=unmade), "roots")
            self.raises(call, self.arguments(call, roots=[part(1)], unmade={True: box(None)}), "roots")
            # The unmade objects may be wrong otherwise.
            self.raises(call, self.arguments(call, roots=[part(3)], unmade={3: "x"}), "unmade")
            self.raises(call, self.arguments(call, roots=[part(-3)], unmade={-3: box(None)}), "unmade")
            self.assertEqual(call(**self.arguments(call, roots=[part(3)]))[1], [thing(9)] if call == all_made else [part(3)])
        for call in (private_objects, taken_apart):
            self.raises(call, self.arguments(call, roots=[part(3)]), "roots")

    def test_two_hundred_unmade_objects(self):
        parts = {k: ("pin", {}) for k in range(200)}
        self.assertEqual(len(all_made({}, [], parts)[0]), 200)
        self.assertEqual(must_make({}, parts, [part(199)]), [199])

    def test_two_thousand_and_one_objects(self):
        for call in CALLS:
            heap = {k: box(None) for k in range(2001)}
            self.raises(call, self.arguments(call, heap=heap), "heap")
            del heap[0]
            if call == all_made:
                self.assertEqual(len(all_made(heap, [], {})[0]), 2000)

    def test_anything_in_the_place_of_any_part(self):
        good = {"heap": {4: box(thing(4), 1)}, "roots": [thing(4)], "unmade": {3: box(part(3))}, "values": [part(3)]}
        for path in paths_in(good):
            if path:
                for odd in odd_things():
                    try:
                        told = made_out(**with_part(good, path, odd))
                        self.assertEqual(len(told), 3)
                    except InvalidState as error:
                        self.assertIn(error.part, good)


if __name__ == "__main__":
    unittest.main()
