"""Ways that lead to a point, and the interpreter at its first visit there."""

from backframes.fingerprints import Fingerprints
from backframes.following import Follower
from backframes.goneways import gone_way
from backframes.holding import Holding
from backframes.judging import all_ways

MOST_KEPT = 400


class Arrival:
    """A way to a point that is not impossible, with the interpreter where it first comes to the point."""

    def __init__(self, backs, start, turns, way, state):
        self.start = start
        self.turns = turns
        self.way = way
        self._holding = Holding(backs, state, way)
        self._follower = Follower(backs, start, way)
        self.rows = self._rows_to(start != state.point)
        # What was asked for: the terms of variables and of recipes, and the fingerprints of both.
        self._values = {}
        self._told = {}
        self._prints = {}
        self._fingerprints = Fingerprints(way.terms)

    def _rows_to(self, beginning_counts):
        """How many rows of the interpreter come first to a visit; None if it does not come there."""
        follower = self._follower
        while follower.rows == 0 and not beginning_counts or not follower.stands_at(self._holding.places):
            if follower.is_at_end() or follower.step() is not None:
                return None
        return follower.rows

    def value_at(self, at, variable):
        """The term of a variable at the visit."""
        if (at, variable) not in self._values:
            self._values[(at, variable)] = self.way.facts.known(self._follower.value_of(at, variable))
        return self._values[(at, variable)]

    def told(self, recipe):
        """The term of a recipe at the end of the way."""
        if recipe not in self._told:
            self._told[recipe] = self.way.facts.known(self._holding.value_of(recipe))
        return self._told[recipe]

    def tells(self, at, variable, recipe):
        """Whether a variable has the value of a recipe at the visit."""
        return self._holding.are_held(self._follower, [(self.value_at(at, variable), self.told(recipe))])

    def may_tell(self, at, variable, recipe):
        """Whether a variable of a number may have the value of an operation on two registers, as is soon seen."""
        if not self.way.facts.keeps_products():
            return True
        value = self.value_at(at, variable)
        if recipe[0] in ("less", "same"):
            least, greatest = self.way.facts.ends(value)
            return least is not None and greatest is not None and 0 <= least and greatest <= 1
        told = [self._print_of(part, self.told(part)) for part in recipe[1:]]
        return self._fingerprints.of_operation(recipe[0], told[0], told[1]) == self._print_of((at, variable), value)

    def _print_of(self, name, term):
        """The fingerprint of a term, noted under a name."""
        if name not in self._prints:
            self._prints[name] = self._fingerprints.of_term(term)
        return self._prints[name]


def arrivals_at(backs, point):
    """The list of the arrivals at a point, in the order of the judge."""
    state = backs.state_at(point)
    found = all_ways(backs)
    told = backs.answer("arrivals")
    # Those at other points are kept as long as they do not take much room.
    if told is None or point not in told and sum([len(told[other]) for other in told]) > MOST_KEPT:
        told = {}
    if point not in told:
        told = {other: told[other] for other in told}
        told[point] = tuple(_found_arrivals(backs, state, found))
        backs.note_answer("arrivals", told)
    return list(told[point])


def _found_arrivals(backs, state, found):
    arrivals = []
    for start, turns, goal in found:
        way = gone_way(backs, start, turns) if goal == state.point else None
        if way is not None:
            arrivals.append(Arrival(backs, start, turns, way, state))
    return arrivals
