import random
import unittest

from backframes.code import Code
from backframes.errors import InvalidArgument, InvalidCode, InvalidNumber, LimitExceeded
from backframes.source import Source
from backframes.ways import rows_on, ways
from tests.samples import all_code, function_source, numbers, odd_things
from tests.wild import wild_backs


def code_of(blocks):
    """Code whose blocks are told by (how many rows or a list of rows, end); they see r if nothing is said."""
    told = []
    for k, (rows, end) in enumerate(blocks):
        rows = [("see", "r")] * rows if isinstance(rows, int) else rows
        told.append((numbers("r") if k == 0 else [], rows, end))
    return Code(function_source([("return", "a")], numbers("a")), "f", told)


def fork(one, other):
    return ("if", "r", (one, []), (other, []))


def go(k):
    return ("go", k, [])


LEAVE = ("return", "r")


def slow_ways(code, start):
    """All ways by going from row to row, as tuples (number of rows, turns, point, rows)."""
    blocks = code.blocks()
    found = []

    def walk(k, r, turns, rows):
        rows = [*rows, (k, r)]
        _, inner, end = blocks[k]
        if r < len(inner):
            if inner[r][0] in ("guard", "look"):
                found.append((len(rows), turns, inner[r][-1], rows))
            else:
                walk(k, r + 1, turns, rows)
        elif end[0] == "return":
            found.append((len(rows), turns, None, rows))
        elif end[0] == "go":
            walk(end[1], 0, turns, rows)
        else:
            walk(end[2][0], 0, (*turns, 0), rows)
            walk(end[3][0], 0, (*turns, 1), rows)

    k, r = (0, -1) if start is None else code.place(start)
    walk(k, r + 1, (), [])
    return sorted(found, key=lambda way: way[:2])


class TestWays(unittest.TestCase):
    def test_the_example_of_the_document(self):
        s = Source([], [("f", [("a", "number")], [], "number", [("add", "a", "a", "a"), ("return", "a")])])
        code = Code(s, "f", [([("r", "number")], [("guard", "r", 0), ("add", "t", "r", "r")], ("return", "t"))])
        told = [code.points(), code.place(0), code.usable(0), ways(code, None), ways(code, 0), rows_on(code, 0, ())]
        self.assertEqual(told, [[0], (0, 0), ["r"], [((), 0)], [((), None)], [(0, 1), (0, 2)]])

    def test_arguments_by_name(self):
        self.assertEqual(ways(start=2, code=all_code()), [((), None)])
        self.assertEqual(rows_on(turns=(1,), start=7, code=all_code())[-1], (2, 4))

    def test_each_form_of_an_end(self):
        code = all_code()
        self.assertEqual([ways(code, None), ways(code, 7), ways(code, 2)], [[((), 7)], [((0,), 7), ((1,), 2)], [((), None)]])
        self.assertEqual(rows_on(code, None, ()), [(0, r) for r in range(10)] + [(1, 0)])
        self.assertEqual(rows_on(code, 7, (0,)), [(1, 1), (1, 2), (1, 3), (1, 4), (1, 5), (1, 0)])
        self.assertEqual(rows_on(code, 2, ()), [(2, 5)])

    def test_the_first_goal_is_that_of_what_is_not_0(self):
        code = code_of([(0, fork(2, 1)), ([("look", 1)], LEAVE), ([("look", 2)], LEAVE)])
        self.assertEqual(ways(code, None), [((0,), 2), ((1,), 1)])

    def test_they_are_ordered_by_rows_and_then_by_turns(self):
        code = code_of([(0, fork(1, 2)), (2, LEAVE), (1, LEAVE)])
        self.assertEqual(ways(code, None), [((1,), None), ((0,), None)])
        code = code_of([(0, fork(1, 2)), (1, fork(3, 4)), (1, fork(4, 3)), (1, LEAVE), (1, LEAVE)])
        self.assertEqual(ways(code, None), [((0, 0), None), ((0, 1), None), ((1, 0), None), ((1, 1), None)])
        code = code_of([(0, fork(1, 2)), (0, LEAVE), (0, LEAVE)])
        self.assertEqual(ways(code, None), [((0,), None), ((1,), None)])
        code = code_of([(0, fork(1, 2)), (1, go(2)), (0, fork(3, 3)), (0, LEAVE)])
        self.assertEqual(ways(code, None), [((1, 0), None), ((1, 1), None), ((0, 0), None), ((0, 1), None)])
        code = code_of([(0, fork(1, 3)), (0, fork(2, 2)), (0, LEAVE), (2, LEAVE)])
        self.assertEqual(ways(code, None), [((0, 0), None), ((0, 1), None), ((1,), None)])
        code = code_of([(0, fork(1, 3)), (0, fork(2, 2)), (0, LEAVE), (1, LEAVE)])
        self.assertEqual(ways(code, None), [((0, 0), None), ((0, 1), None), ((1,), None)])
        code = code_of([(0, fork(3, 1)), (0, fork(2, 2)), (0, LEAVE), (1, LEAVE)])
        self.assertEqual(ways(code, None), [((0,), None), ((1, 0), None), ((1, 1), None)])

    def test_the_last_row_and_ends_count(self):
        code = code_of([(0, fork(1, 2)), ([("look", 1)], LEAVE), (0, LEAVE)])
        self.assertEqual([ways(code, None), rows_on(code, None, (0,)), rows_on(code, None, (1,))],
                         [[((0,), 1), ((1,), None)], [(0, 0), (1, 0)], [(0, 0), (2, 0)]])

    def test_points_side_by_side_and_round_loops(self):
        code = code_of([([("look", 5), ("look", 3)], go(1)), ([("see", "r"), ("look", 1)], fork(1, 2)), (0, LEAVE)])
        self.assertEqual([ways(code, start) for start in (None, 5, 3, 1)],
                         [[((), 5)], [((), 3)], [((), 1)], [((1,), None), ((0,), 1)]])
        self.assertEqual(rows_on(code, 1, (0,)), [(1, 2), (1, 0), (1, 1)])
        self.assertEqual(rows_on(code, 5, ()), [(0, 1)])

    def test_against_going_from_row_to_row(self):
        chance = random.Random(27)
        several = 0
        for _ in range(400):
            code = wild_backs(chance, most_blocks=8, most_rows=2).code
            for start in [None, *code.points()]:
                found = slow_ways(code, start)
                self.assertEqual(ways(code, start), [(turns, point) for _, turns, point, _ in found])
                several += len(found) > 3
                for _, turns, _, rows in found:
                    self.assertEqual(rows_on(code, start, turns), rows)
        self.assertGreater(several, 30)

    def test_what_is_returned_is_new(self):
        code = all_code()
        ways(code, 7).clear()
        rows_on(code, 7, (1,)).clear()
        self.assertEqual((len(ways(code, 7)), len(rows_on(code, 7, (1,)))), (2, 10))


class TestLimits(unittest.TestCase):
    def limit(self, limit, code, start=None):
        for ask in (lambda: ways(code, start), lambda: rows_on(code, start, (0,) * 7), lambda: rows_on(code, start, None)):
            with self.assertRaises(LimitExceeded) as caught:
                ask()
            self.assertEqual(caught.exception.limit, limit)

    def test_just_so_many_ways_and_one_more(self):
        for many in (199, 200, 201, 202):
            code = self.code_with(many)
            if many <= 200:
                found = ways(code, None)
                self.assertEqual(len(found), many)
                self.assertEqual(len({turns for turns, _ in found}), many)
                self.assertEqual(rows_on(code, None, found[-1][0])[0], (0, 0))
            else:
                self.limit(200, code)

    def code_with(self, many):
        """Code with so many ways, built from its end: a fork doubles them, or adds those of another block."""
        chance = random.Random(many)
        while True:
            counts = [1]
            goals = [None]
            while counts[-1] < many and len(counts) < 12:
                other = chance.randrange(len(counts))
                goals.append((len(counts) - 1, other))
                counts.append(counts[-1] + counts[other])
            if counts[-1] == many:
                last = len(counts) - 1
                return code_of([(0, LEAVE if pair is None else fork(last - pair[0], last - pair[1])) for pair in reversed(goals)])

    def test_ways_from_a_point(self):
        blocks = [([("look", 4)], go(1)), *[(0, fork(k + 2, k + 2)) for k in range(8)], (0, LEAVE)]
        code = code_of(blocks)
        self.assertEqual(ways(code, None), [((), 4)])
        self.limit(200, code, 4)

    def long(self, rows):
        """Code with one way of so many rows."""
        rest = rows - 4
        return code_of([(min(20, rest), go(1)), (min(20, max(0, rest - 20)), go(2)), (max(0, rest - 40), go(3)), (0, LEAVE)])

    def test_60_rows(self):
        self.assertEqual(len(rows_on(self.long(60), None, ())), 60)
        self.assertEqual(ways(self.long(60), None), [((), None)])
        self.limit(60, self.long(61))
        self.limit(60, self.long(64))

    def test_60_rows_to_a_point(self):
        for ahead in (15, 16, 17, 18):
            code = code_of([(20, go(1)), (20, go(2)), (ahead, fork(3, 3)), ([("look", 0)], LEAVE)])
            if ahead <= 16:
                self.assertEqual(len(rows_on(code, None, (1,))), 44 + ahead)
            else:
                self.limit(60, code)
            self.assertEqual(ways(code, 0), [((), None)])

    def test_a_single_way_that_is_too_long(self):
        code = code_of([(0, fork(1, 2)), (0, LEAVE), (20, go(3)), (20, go(4)), (17, LEAVE)])
        self.limit(60, code)

    def test_too_many_ways_are_told_ahead_of_too_many_rows(self):
        blocks = [(7, fork(k + 1, k + 1)) for k in range(8)]
        self.limit(200, code_of([*blocks, (4, LEAVE)]))
        self.limit(60, code_of([*blocks[:7], (0, go(8)), (4, LEAVE)]))


class TestWrong(unittest.TestCase):
    def test_no_code(self):
        for thing in odd_things():
            if not isinstance(thing, Code):
                for ask in (lambda: ways(thing, -1), lambda: rows_on(thing, -1, None)):
                    with self.assertRaises(InvalidCode) as caught:
                        ask()
                    self.assertEqual((caught.exception.part, caught.exception.at), ("code", None))

    def test_no_start(self):
        for thing in [*odd_things(), 0, -1, 100, "7", [7]]:
            if thing is not None:
                for ask in (lambda: ways(all_code(), thing), lambda: rows_on(all_code(), thing, None)):
                    with self.assertRaises(InvalidNumber) as caught:
                        ask()
                    self.assertIs(caught.exception.number, thing)

    def test_no_turns(self):
        wrong = [(2,), (-1,), (0, 0), (0, 1), [0], [1], 0, "0", (False,), (True,), (0.0,), (1.0,), ("0",), (None,), {0: 0}, (0, None), range(1)]
        for thing in [*wrong, *[thing for thing in odd_things() if thing != (1,)]]:
            with self.assertRaises(InvalidArgument) as caught:
                rows_on(all_code(), 7, thing)
            self.assertEqual(caught.exception.part, "turns")
        for thing in odd_things():
            if thing != ():
                for turns in (thing, (thing,)):
                    with self.assertRaises(InvalidArgument) as caught:
                        rows_on(all_code(), None, turns)
                    self.assertEqual(caught.exception.part, "turns")


if __name__ == "__main__":
    unittest.main()
