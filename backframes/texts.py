"""Texts of sources."""

from backframes.errors import InvalidSource, InvalidText
from backframes.plain import is_kind, is_name
from backframes.source import ROW_WORDS, Source
from backframes.textforms import (
    STROKE, line_of, pair_words, read_pairs, read_row, row_line, row_words, text_lines,
)


def source_text(source):
    """The text of a source."""
    if not isinstance(source, Source):
        raise InvalidSource("source", None)
    lines = [line_of(["class", name, *pair_words(fields)]) for name, fields in source.classes()]
    for name, params, others, result, rows in source.functions():
        lines.append(line_of(["function", name, result, *pair_words(params), STROKE, *pair_words(others)]))
        lines.extend([row_line(row_words(row)) for row in rows])
    return "".join(lines)


def read_source(text):
    """The source of a text."""
    classes = []
    functions = []
    for at, (inner, words) in enumerate(text_lines(text)):
        if not _takes_line(inner, words, classes, functions):
            raise InvalidText(at)
    return Source(classes, functions)


def _takes_line(inner, words, classes, functions):
    """Add what a line tells to the lists; returns whether it has a form and can stand there."""
    if inner:
        row = read_row(words, ROW_WORDS)
        if row is None or len(functions) == 0:
            return False
        functions[-1][4].append(row)
        return True
    if len(words) < 2 or not is_name(words[1]):
        return False
    if words[0] == "class" and len(functions) == 0:
        return _takes_class(words, classes)
    return words[0] == "function" and _takes_function(words, functions)


def _takes_class(words, classes):
    fields = read_pairs(words[2:])
    if fields is None:
        return False
    classes.append((words[1], fields))
    return True


def _takes_function(words, functions):
    if len(words) < 4 or not is_kind(words[2]) or STROKE not in words:
        return False
    stroke = words.index(STROKE)
    params = read_pairs(words[3:stroke])
    others = read_pairs(words[stroke + 1:])
    if params is None or others is None:
        return False
    functions.append((words[1], params, others, words[2], []))
    return True
