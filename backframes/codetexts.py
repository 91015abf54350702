"""Texts of code."""

from backframes.code import Code
from backframes.codeforms import ROW_WORDS
from backframes.errors import InvalidCode, InvalidSource, InvalidText
from backframes.plain import is_list_of_names, is_name
from backframes.source import Source
from backframes.textforms import (
    STROKE, line_of, pair_words, read_integer, read_pairs, read_row, row_line, row_words, text_lines,
)


def code_text(code):
    """The text of code."""
    if not isinstance(code, Code):
        raise InvalidCode("code", None)
    lines = [line_of(["code", code.owner()])]
    for params, rows, end in code.blocks():
        lines.append(line_of(["block", *pair_words(params)]))
        lines.extend([row_line(row_words(row)) for row in rows])
        lines.append(row_line(_end_words(end)))
    return "".join(lines)


def _end_words(end):
    if end[0] == "if":
        return ["if", end[1], *row_words(end[2]), STROKE, *row_words(end[3])]
    return row_words(end)


def read_code(source, text):
    """The code of a source that a text tells."""
    if not isinstance(source, Source):
        raise InvalidSource("source", None)
    lines = text_lines(text)
    reader = CodeReader()
    for at, (inner, words) in enumerate(lines):
        if not reader.takes_line(inner, words):
            raise InvalidText(at)
    if not reader.may_end():
        raise InvalidText(len(lines))
    return reader.made_code(source)


class CodeReader:
    """What the lines of a text of code have told so far.

    The block that stands open is a tuple of its parameters and its rows; None is behind an end.
    """

    def __init__(self):
        self._owner = None
        self._blocks = []
        self._block = None

    def takes_line(self, inner, words):
        """Note what a line tells; returns whether it has a form and can stand there."""
        if len(words) == 0:
            return False
        if inner:
            return self._block is not None and self._takes_inner(words)
        if self._block is not None:
            return False
        if self._owner is None:
            return self._takes_owner(words)
        return words[0] == "block" and self._takes_block(words)

    def _takes_owner(self, words):
        if len(words) != 2 or words[0] != "code" or not is_name(words[1]):
            return False
        self._owner = words[1]
        return True

    def _takes_block(self, words):
        params = read_pairs(words[1:])
        if params is None:
            return False
        self._block = (params, [])
        return True

    def _takes_inner(self, words):
        row = read_row(words, ROW_WORDS)
        if row is not None:
            self._block[1].append(row)
            return True
        end = _read_end(words)
        if end is None:
            return False
        self._blocks.append((*self._block, end))
        self._block = None
        return True

    def may_end(self):
        return self._owner is not None and self._block is None

    def made_code(self, source):
        return Code(source, self._owner, self._blocks)


def _read_end(words):
    """The end that words tell, or None."""
    if words[0] == "return":
        return ("return", words[1]) if len(words) == 2 and is_name(words[1]) else None
    if words[0] == "go":
        goal = _read_goal(words[1:])
        return None if goal is None else ("go", *goal)
    return _read_if(words) if words[0] == "if" else None


def _read_if(words):
    if len(words) < 2 or not is_name(words[1]) or STROKE not in words:
        return None
    stroke = words.index(STROKE)
    one = _read_goal(words[2:stroke])
    other = _read_goal(words[stroke + 1:])
    return None if one is None or other is None else ("if", words[1], one, other)


def _read_goal(words):
    """The tuple of a block and registers that words tell, or None."""
    if len(words) == 0 or not is_list_of_names(words[1:]):
        return None
    number = read_integer(words[0])
    return None if number is None else (number, words[1:])
