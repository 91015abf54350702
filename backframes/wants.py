"""What is asked for at a point of code, and what it can be computed again from."""

from backframes.cuts import Cut
from backframes.plain import is_list_of_names
from backframes.registers import can_be_told, with_origins
from backframes.rowforms import row_reads

LEAST_WEIGHT = 1


class Wants:
    """The registers that are wanted at a point.

    standing is the list of the registers that stand there, again the dict of the rows of those that can
    be computed again, living and wishes are the lists of those that are there anyhow, and of the wanted ones.
    """

    def __init__(self, standing, again, living, wishes):
        self._standing = standing
        self._again = again
        self._living = {name: True for name in living}
        self._wishes = wishes

    def are_registers(self, thing):
        """Whether a thing is a list of registers that stand at the point."""
        return is_list_of_names(thing) and all([name in self._standing for name in thing])

    def are_served(self, names):
        kept = {name: True for name in names}
        kept.update(self._living)
        return can_be_told(self._wishes, kept, self._again)

    def _uses(self, name):
        """The list of the registers without living ones that are needed to compute one again."""
        if name not in self._again:
            return []
        return [used for used in row_reads(self._again[name]) if used not in self._living]

    def cut(self, weights):
        """The least cuts between the leaves and the registers that are wanted."""
        needed = with_origins(self._wishes, {name: self._uses(name) for name in self._standing})
        steps = {name: [] for name in needed}
        for name in needed:
            for used in self._uses(name):
                steps[used].append(name)
        leaves = [name for name in needed if name not in self._again]
        costs = {name: weights.get(name, LEAST_WEIGHT) for name in needed}
        return Cut(costs, steps, leaves, self._wishes)

    def is_path(self, thing):
        if not is_list_of_names(thing) or len(thing) == 0 or thing[-1] not in self._wishes:
            return False
        steps = [one in self._uses(other) for one, other in zip(thing, thing[1:])]
        return thing[0] not in self._again and all(steps)
