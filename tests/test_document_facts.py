"""Facts of the document that hold together what several modules tell; 56 to 58, 77, 100 and 122 are tried beside their modules."""

import itertools
import random
import unittest

from backframes.carried import carried, carries, total
from backframes.code import Code
from backframes.entering import entered_run, entering
from backframes.errors import CodeError
from backframes.frames import Backs, FrameState, built
from backframes.heaps import matching, parting_paths
from backframes.judging import judge
from backframes.kept import kept_paths, least_kept, live
from backframes.machine import finished, going_on
from backframes.runs import CodeRun, rode
from tests.compiled import compiled_backs
from tests.wild import AGAIN, wild_backs


def with_fewer_recipes(chance, backs, point):
    """The same code; variables of the frame state of a point have numbers and nil in the place of registers."""
    states = backs.states()
    at = backs.code.points().index(point)
    frames = states[at].frames()
    for _, _, recipes in frames:
        for name in recipes:
            if chance.random() < 0.5:
                recipes[name] = ("nil",) if name in "qox" else ("number", 1)
    states[at] = FrameState(backs.code, point, frames, unmade=states[at].unmade(), own={}, claims=[])
    return Backs(backs.code, states)


def with_more_reads(backs, name):
    """The same code in which each return is behind a row that sees a register, if it may stand there."""
    blocks = backs.code.blocks()
    for _, rows, end in blocks:
        if end[0] == "return":
            rows.append(("see", name))
    code = Code(backs.code.source, "f", blocks)
    states = [FrameState(code, state.point, state.frames(), unmade=state.unmade(), own=state.own(), claims=state.claims()) for state in backs.states()]
    return Backs(code, states)


class TestKept(unittest.TestCase):
    """Fact 95."""

    WORDS = (*AGAIN, *AGAIN, "get", "see")

    def test_the_cost_is_that_of_the_paths_and_never_rises(self):
        chance = random.Random(95)
        lower = 0
        for _ in range(200):
            backs = wild_backs(chance, self.WORDS, most_blocks=3)
            for point in backs.code.points():
                cost = least_kept(backs, point)[0]
                self.assertEqual(len(kept_paths(backs, point)), cost)
                fewer = least_kept(with_fewer_recipes(chance, backs, point), point)[0]
                self.assertLessEqual(fewer, cost)
                for name in chance.sample(backs.code.usable(point), 1):
                    lower += self.check_more_live(backs, point, name, cost)
                lower += fewer < cost
        self.assertGreater(lower, 30)

    def check_more_live(self, backs, point, name, cost):
        try:
            more = with_more_reads(backs, name)
        except CodeError:
            return 0
        self.assertLessEqual(set(live(backs.code, point)), set(live(more.code, point)))
        self.assertLessEqual(least_kept(more, point)[0], cost)
        return least_kept(more, point)[0] < cost


class TestCarried(unittest.TestCase):
    """Fact 103."""

    def test_no_registers_that_carry_the_points_come_to_less(self):
        chance = random.Random(103)
        compared = 0
        for _ in range(150):
            backs = wild_backs(chance, TestKept.WORDS, most_blocks=3)
            visits = {point: chance.randint(0, 5) for point in backs.code.points()}
            least = 0
            for point in visits:
                sizes = range(len(backs.code.usable(point)) + 1)
                carrying = (names for many in sizes for names in itertools.combinations(backs.code.usable(point), many) if carries(backs, point, list(names)))
                fewest = len(next(carrying))
                self.assertEqual(fewest, len(carried(backs, point)))
                least += fewest * visits[point]
                compared += fewest > 0
            self.assertEqual(total(backs, visits), least)
        self.assertGreater(compared, 50)


class TestEntering(unittest.TestCase):
    """Fact 109."""

    def moments(self, backs, number):
        """The states to which a run can go back at its points, as tuples (point, state)."""
        run = CodeRun(backs, [number, None])
        found = []
        while run.place() is not None and len(found) < 6:
            points = [point for point in backs.code.points() if backs.code.place(point) == run.place()]
            if points:
                found.append((points[0], built(backs.state_at(points[0]), run.registers(), run.heap())))
            run.step()
        return found

    def test_code_that_is_right_goes_on_as_the_interpreter(self):
        entered = 0
        for seed in range(120):
            backs = compiled_backs(random.Random(seed))
            if judge(backs) != ("right",):
                continue
            for number in (0, 2, -1):
                try:
                    for point, state in self.moments(backs, number):
                        entered += self.check(backs, point, state)
                except CodeError:
                    continue
        self.assertGreater(entered, 100)

    def check(self, backs, point, state):
        word = entering(backs, point, state)[0]
        self.assertIn(word, ("entered", "guard", "open", "shared"))
        if word != "entered":
            return 0
        result, log = finished(going_on(state))
        told = rode(entered_run(backs, point, state))
        self.assertEqual((result, log), told[:2])
        self.check_back(backs, point, state)
        return 1

    def check_back(self, backs, point, state):
        """Where the code goes back at once, frames and objects are alike."""
        _, registers, heap = entering(backs, point, state)
        back = built(backs.state_at(point), registers, heap)
        roots, others = [], []
        for (_, _, recipes), (_, _, one), (_, _, other) in zip(backs.state_at(point).frames(), state.frames(), back.frames()):
            roots.extend(one[name] for name in sorted(recipes))
            others.extend(other[name] for name in sorted(recipes))
        self.assertIsNone(parting_paths(state.heap(), roots, back.heap(), others))
        self.assertIsNotNone(matching(state.heap(), roots, back.heap(), others))


if __name__ == "__main__":
    unittest.main()
