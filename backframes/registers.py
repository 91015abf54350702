"""What registers of code come from, and where they are read."""

from backframes.codeforms import end_asks, end_goals, end_uses, row_point
from backframes.rowforms import row_reads, row_sets

AGAIN_WORDS = ("number", "nil", "add", "sub", "times", "less", "same")


def rows_again(blocks):
    """A dict with the rows of all registers that can be computed again."""
    again = {}
    for _, rows, _ in blocks:
        for row in rows:
            if row[0] in AGAIN_WORDS:
                again[row_sets(row)] = row
    return again


def can_be_told(names, kept, again):
    """Whether each name is among those of the dict kept, or can be computed again from them."""
    waiting = list(names)
    met = {}
    while waiting:
        name = waiting.pop()
        if name in kept or name in met:
            continue
        if name not in again:
            return False
        met[name] = True
        waiting.extend(row_reads(again[name]))
    return True


def origins(code):
    """A dict from all registers to the lists of those that their rows use or that goals give to them."""
    blocks = code.frozen_blocks()
    come = {name: [] for name in code.kinds()}
    for _, rows, end in blocks:
        for row in rows:
            if row_sets(row) is not None:
                come[row_sets(row)].extend(row_reads(row))
        for goal, given in end_goals(end):
            for (name, _), origin in zip(blocks[goal][0], given):
                come[name].append(origin)
    return come


def with_origins(names, come):
    """A dict with registers and all that they come from."""
    met = {name: True for name in names}
    waiting = list(met)
    while waiting:
        name = waiting.pop()
        for origin in come[name]:
            if origin not in met:
                met[origin] = True
                waiting.append(origin)
    return met


def used_for_itself(code):
    """The list of the registers that code uses otherwise than for making registers."""
    names = []
    for _, rows, end in code.frozen_blocks():
        for row in rows:
            if row[0] in ("put", "see", "guard", "call"):
                names.extend(row_reads(row))
        if end_asks(end) is not None:
            names.append(end_asks(end))
    return names


def read_behind(blocks, asked):
    """A dict from all points to the sorted tuples of the registers that are read behind them before they are made anew.

    asked is a dict from points to lists of registers that are read at their rows, besides what these read.
    """
    heads = [{} for _ in blocks]
    grown = True
    while grown:
        grown = False
        # Most goals lead on to later blocks, and what is read is handed back to the earlier ones.
        for k in reversed(range(len(blocks))):
            head = _read_from(blocks[k], 0, _read_at_end(blocks, k, heads), asked)
            if len(head) > len(heads[k]):
                heads[k] = head
                grown = True
    behind = {}
    for k, block in enumerate(blocks):
        for r, row in enumerate(block[1]):
            if row_point(row) is not None:
                read = _read_from(block, r + 1, _read_at_end(blocks, k, heads), asked)
                behind[row_point(row)] = tuple(sorted(list(read)))
    return behind


def _read_at_end(blocks, k, heads):
    """A dict with the registers that are read from the end of block k on, by what is read from each block on."""
    end = blocks[k][2]
    read = {name: True for name in end_uses(end)}
    for goal, _ in end_goals(end):
        params = [name for name, _ in blocks[goal][0]]
        for name in heads[goal]:
            if name not in params:
                read[name] = True
    return read


def _read_from(block, r, read, asked):
    """The dict of what is read behind the rows of a block, turned to what is read from row r on."""
    for row in reversed(block[1][r:]):
        read.pop(row_sets(row), None)
        for name in [*row_reads(row), *asked.get(row_point(row), [])]:
            read[name] = True
    return read
