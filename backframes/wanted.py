"""Which variables are wanted at a row: what a run tells can still depend on them."""

from backframes.errors import InvalidArgument, InvalidNumber, InvalidSource
from backframes.rowforms import row_reads, row_sets
from backframes.source import Source


def wanted(source, name, row):
    """The sorted list of the variables that are wanted at a row."""
    return _wanted_in(_function_with(source, name, row), row)


def wanting(source, name, row, variable):
    """The rows from this one to the one that shows that a variable is wanted, or None."""
    function = _function_with(source, name, row)
    if not isinstance(variable, str) or variable not in function.variables:
        raise InvalidArgument("variable")
    return _way_to_reader(function.body, row, variable)


def wanted_at_call(source, name, row):
    """The sorted list of the variables that a frame wants while it waits at a call."""
    function = _function_with(source, name, row)
    if function.called_at(row) is None:
        raise InvalidNumber(row)
    result = row_sets(function.body[row])
    return [variable for variable in _wanted_in(function, row + 1) if variable != result]


def _function_with(source, name, row):
    """The Function with a name, once it is seen to have the row."""
    if not isinstance(source, Source):
        raise InvalidSource("source", None)
    function = source.function_at(name)
    if function is None:
        raise InvalidArgument("name")
    if not function.has_row(row):
        raise InvalidNumber(row)
    return function


def _wanted_in(function, row):
    names = sorted(list(function.variables))
    return [name for name in names if _way_to_reader(function.body, row, name) is not None]


def _way_to_reader(body, row, variable):
    """The first of the shortest lists of rows from a row to one that reads a variable, or None.

    Lists are met by their lengths, and those of one length in their order,
    because the rows behind each row are gone through in ascending order.
    """
    ways = [[row]]
    met = {row: True}
    at = 0
    while at < len(ways):
        way = ways[at]
        at += 1
        if variable in row_reads(body[way[-1]]):
            return way
        if row_sets(body[way[-1]]) == variable:
            continue
        for goal in _rows_behind(body, way[-1]):
            if goal not in met:
                met[goal] = True
                ways.append([*way, goal])
    return None


def _rows_behind(body, row):
    """The ascending list of the rows that may follow a row."""
    word = body[row][0]
    if word == "return":
        return []
    if word == "jump":
        return [body[row][1]]
    if word == "if":
        return sorted([row + 1, body[row][2]])
    return [row + 1]
