"""Sources: small programs of classes and functions."""

from backframes.errors import InvalidSource
from backframes.plain import are_named_kinds, frozen, is_integer_in, is_kind, is_list_of, is_name, is_tuple_of
from backframes.rowforms import is_row, row_kinds_fit, row_reads, row_sets, told_row

MOST_CLASSES = 6
MOST_FIELDS = 4
MOST_FUNCTIONS = 6
MOST_PARAMETERS = 4
MOST_OTHERS = 8
MOST_ROWS = 40
ROW_WORDS = (
    "number", "add", "sub", "times", "less", "nil", "new", "copy", "same",
    "get", "put", "call", "see", "if", "jump", "return",
)


class Function:
    """A function of a source; the program never changes it once its source is made."""

    def __init__(self, name, params, others, result):
        self.name = name
        self.params = frozen(params)
        self.others = frozen(others)
        self.result = result
        self.variables = dict(self.params + self.others)
        self.body = ()

    def has_row(self, thing):
        return is_integer_in(thing, 0, len(self.body) - 1)

    def called_at(self, row):
        """The name of the function that a row calls, or None."""
        return self.body[row][2] if self.body[row][0] == "call" else None


class Source:
    """A list of classes and a list of functions that fit together."""

    def __init__(self, classes, functions):
        self._field_kinds = {}
        self._fields = {}
        self._functions = {}
        self._take_classes(classes)
        self._take_heads(functions)
        for k, entry in enumerate(functions):
            self._take_rows(k, self._functions[entry[0]], entry[4])

    def _take_classes(self, classes):
        if not is_list_of(classes, 0, MOST_CLASSES):
            raise InvalidSource("classes", -1)
        for k, entry in enumerate(classes):
            if not _is_class(entry) or entry[0] in self._fields or self._kinds_differ(entry[1]):
                raise InvalidSource("classes", k)
            self._fields[entry[0]] = frozen(entry[1])
            for field, kind in entry[1]:
                self._field_kinds[field] = kind

    def _kinds_differ(self, fields):
        return any([self._field_kinds.get(field, kind) != kind for field, kind in fields])

    def _take_heads(self, functions):
        if not is_list_of(functions, 1, MOST_FUNCTIONS):
            raise InvalidSource("functions", -1)
        for k, entry in enumerate(functions):
            if not _is_head(entry) or entry[0] in self._functions:
                raise InvalidSource("functions", (k,))
            self._functions[entry[0]] = Function(entry[0], entry[1], entry[2], entry[3])

    def _take_rows(self, k, function, rows):
        for r, row in enumerate(rows):
            if not self._is_row_of(function, row, len(rows)):
                raise InvalidSource("functions", (k, r))
        if rows[-1][0] not in ("jump", "return"):
            raise InvalidSource("functions", (k, len(rows) - 1))
        function.body = frozen(rows)

    def _is_row_of(self, function, row, many):
        if not is_row(self, row, ROW_WORDS):
            return False
        if row[0] in ("if", "jump") and not 0 <= row[-1] < many:
            return False
        names = [row_sets(row)]
        names.extend(row_reads(row))
        if not all([name is None or name in function.variables for name in names]):
            return False
        return row_kinds_fit(self, row, function.variables, function.result)

    def classes(self):
        return [(name, list(self._fields[name])) for name in self._fields]

    def functions(self):
        return [_told_function(self._functions[name]) for name in self._functions]

    def __eq__(self, other):
        return (
            isinstance(other, Source)
            and self.classes() == other.classes()
            and self.functions() == other.functions()
        )

    def function_at(self, name):
        """The Function with a name, or None for what is no name of one."""
        return self._functions.get(name) if isinstance(name, str) else None

    def fields_of(self, name):
        """The tuple of the fields of a class, or None for what is no name of one."""
        return self._fields.get(name) if isinstance(name, str) else None

    def field_kind(self, name):
        """The kind of a field, or None for what is no name of one."""
        return self._field_kinds.get(name) if isinstance(name, str) else None


def _is_class(entry):
    return is_tuple_of(entry, 2) and is_name(entry[0]) and are_named_kinds(entry[1], MOST_FIELDS)


def _is_head(entry):
    """Whether a function is as described, whatever stands in its rows."""
    if not is_tuple_of(entry, 5) or not is_name(entry[0]) or not is_kind(entry[3]):
        return False
    if not are_named_kinds(entry[1], MOST_PARAMETERS) or not are_named_kinds(entry[2], MOST_OTHERS):
        return False
    if not are_named_kinds(entry[1] + entry[2], MOST_PARAMETERS + MOST_OTHERS):
        return False
    return is_list_of(entry[4], 1, MOST_ROWS)


def _told_function(function):
    rows = [told_row(row) for row in function.body]
    return (function.name, list(function.params), list(function.others), function.result, rows)
