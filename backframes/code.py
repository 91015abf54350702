"""Code: another form of a function of a source, in blocks of rows with registers."""

from backframes.codeforms import ROW_WORDS, end_goals, end_uses, is_end, made_kind, row_point, told_block
from backframes.codegraph import block_goals, blocks_above, circle_without, reached_from
from backframes.errors import InvalidCode, InvalidNumber, InvalidSource
from backframes.plain import are_named_kinds, frozen, is_integer, is_list_of, is_tuple_of
from backframes.registers import read_behind, rows_again
from backframes.rowforms import is_row, row_kinds_fit, row_reads, row_sets
from backframes.source import Source

MOST_BLOCKS = 12
MOST_PARAMETERS = 4
MOST_ROWS_OF_BLOCK = 20
MOST_ROWS = 60
MOST_POINTS = 12
MOST_NOTED = 600


class Code:
    """Blocks of rows that stand for one function of a source."""

    def __init__(self, source, function, blocks):
        if not isinstance(source, Source):
            raise InvalidSource("source", None)
        owner = source.function_at(function)
        if owner is None:
            raise InvalidCode("function", None)
        if not is_list_of(blocks, 1, MOST_BLOCKS):
            raise InvalidCode("blocks", -1)
        self.source = source
        self._owner = owner
        self._kinds = {}
        self._places = {}
        for k, block in enumerate(blocks):
            self._take_block(k, block)
        self._blocks = frozen(blocks)
        self._check_sizes()
        self._check_goals()
        self._above = blocks_above(block_goals(self._blocks))
        self._check_reached()
        self._check_uses()
        self._check_circles()
        self._again = rows_again(self._blocks)
        self._living = {}
        self._standing = {}
        self._ways = {}
        self._gone = {}

    def _take_block(self, k, block):
        if not _is_head(block) or not self._are_new(block[0]):
            raise InvalidCode("blocks", (k,))
        if k == 0 and [kind for _, kind in block[0]] != [kind for _, kind in self._owner.params]:
            raise InvalidCode("blocks", (k,))
        for name, kind in block[0]:
            self._kinds[name] = kind
        for r, row in enumerate(block[1]):
            if not is_row(self.source, row, ROW_WORDS) or not self._take_row(k, r, row):
                raise InvalidCode("blocks", (k, r))
        if not is_end(block[2]):
            raise InvalidCode("blocks", (k, len(block[1])))

    def _are_new(self, params):
        return all([name not in self._kinds for name, _ in params])

    def _take_row(self, k, r, row):
        """Note what a row makes and its point; returns whether both are new."""
        name = row_sets(row)
        point = row_point(row)
        if name in self._kinds or point in self._places:
            return False
        if name is not None:
            self._kinds[name] = made_kind(self.source, row)
        if point is not None:
            self._places[point] = (k, r)
        return True

    def _check_sizes(self):
        if sum([len(rows) for _, rows, _ in self._blocks]) > MOST_ROWS:
            raise InvalidCode("rows", None)
        if len(self._places) > MOST_POINTS:
            raise InvalidCode("points", None)

    def _check_goals(self):
        for k, (_, rows, end) in enumerate(self._blocks):
            for goal, given in end_goals(end):
                if goal >= len(self._blocks) or len(given) != len(self._blocks[goal][0]):
                    raise InvalidCode("blocks", (k, len(rows)))

    def _check_reached(self):
        met = reached_from([0], block_goals(self._blocks), [])
        for k in range(len(self._blocks)):
            if k not in met:
                raise InvalidCode("blocks", (k,))

    def _check_uses(self):
        for k, (_, rows, end) in enumerate(self._blocks):
            there = {name: True for name in self._made_ahead(k, 0)}
            for r, row in enumerate(rows):
                if not _may_use(row_reads(row), there):
                    raise InvalidCode("blocks", (k, r))
                if not row_kinds_fit(self.source, row, self._kinds, self._owner.result):
                    raise InvalidCode("blocks", (k, r))
                there[row_sets(row)] = True
            if not _may_use(end_uses(end), there) or not self._end_fits(end):
                raise InvalidCode("blocks", (k, len(rows)))

    def _end_fits(self, end):
        if end[0] == "return":
            return self._kinds[end[1]] == self._owner.result
        if end[0] == "if" and self._kinds[end[1]] != "number":
            return False
        return all([self._goal_fits(goal, given) for goal, given in end_goals(end)])

    def _goal_fits(self, goal, given):
        return [self._kinds[name] for name in given] == [kind for _, kind in self._blocks[goal][0]]

    def _check_circles(self):
        barred = [k for k, _ in self._places.values()]
        least = circle_without(block_goals(self._blocks), barred)
        if least is not None:
            raise InvalidCode("circle", least)

    def _made_ahead(self, k, r):
        """The list of the registers that are made on every way to row r of block k."""
        names = [name for name, _ in self._blocks[k][0]]
        names.extend(_made_by(self._blocks[k][1][:r]))
        for other in self._above[k]:
            names.extend([name for name, _ in self._blocks[other][0]])
            names.extend(_made_by(self._blocks[other][1]))
        return names

    def owner(self):
        return self._owner.name

    def blocks(self):
        return [told_block(block) for block in self._blocks]

    def frozen_blocks(self):
        """The blocks in tuples alone, so that they can be handed out as they are kept."""
        return self._blocks

    def points(self):
        return sorted(list(self._places))

    def place(self, point):
        if not is_integer(point) or point not in self._places:
            raise InvalidNumber(point)
        return self._places[point]

    def kinds(self):
        return dict(self._kinds)

    def usable(self, point):
        k, r = self.place(point)
        if point not in self._standing:
            self._standing[point] = tuple(sorted(self._made_ahead(k, r)))
        return list(self._standing[point])

    def living(self, point):
        """The sorted list of the registers that are read behind a point before they are made anew.

        They are looked for once, for all points, when they are asked for: code never changes.
        """
        self.place(point)
        if len(self._living) == 0:
            self._living = read_behind(self._blocks, {})
        return list(self._living[point])

    def noted_ways(self, start):
        """What was noted of the ways from a point, or from the beginning for None; None if nothing was."""
        return self._ways.get(start)

    def note_ways(self, start, found):
        """Note what was found of the ways from a start, in tuples alone: code never changes."""
        self._ways[start] = found

    def noted_gone(self, way):
        """What was noted of how a way, told by its start and its turns, was gone; None if nothing was."""
        return self._gone.get(way)

    def note_gone(self, way, told):
        """Note how a way was gone, unless this would take too much room."""
        if way in self._gone or len(self._gone) < MOST_NOTED:
            self._gone[way] = told

    def again_rows(self):
        """A dict with the rows of all registers that can be computed again."""
        return dict(self._again)

    def __eq__(self, other):
        return (
            isinstance(other, Code)
            and self.source == other.source
            and self.owner() == other.owner()
            and self._blocks == other._blocks
        )


def _is_head(block):
    """Whether a block with its parameters and the number of its rows is as described."""
    if not is_tuple_of(block, 3) or not are_named_kinds(block[0], MOST_PARAMETERS):
        return False
    return is_list_of(block[1], 0, MOST_ROWS_OF_BLOCK)


def _may_use(names, there):
    return all([name in there for name in names])


def _made_by(rows):
    return [row_sets(row) for row in rows if row_sets(row) is not None]
