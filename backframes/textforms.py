"""Lines of texts: their words, and the rows that are told by words."""

from backframes.errors import InvalidText
from backframes.plain import is_kind, is_list_of_names, is_name
from backframes.rowforms import ROLES

FIGURES = "0123456789"
MOST_FIGURES = 30
INDENT = "  "
STROKE = "/"


def text_lines(text):
    """The list of the lines of a text: tuples of whether two blanks stand ahead, and the list of the words.

    A line that can have no form has no words: one with other blanks than those between two words,
    and one without a line feed at its end.
    """
    if not isinstance(text, str):
        raise InvalidText(-1)
    lines = text.split("\n")
    rest = lines.pop()
    told = [_words_of(line) for line in lines]
    if rest != "":
        told.append((False, []))
    return told


def _words_of(line):
    inner = line.startswith(INDENT)
    words = line[len(INDENT):].split(" ") if inner else line.split(" ")
    return (inner, [] if "" in words else words)


def line_of(words):
    return " ".join(words) + "\n"


def row_line(words):
    return INDENT + line_of(words)


def row_words(row):
    """The words of a row: its parts, those of lists one by one."""
    words = []
    for part in row:
        if isinstance(part, list):
            words.extend(part)
        else:
            words.append(str(part))
    return words


def pair_words(pairs):
    """The words of a list of tuples (name, kind)."""
    return [name + ":" + kind for name, kind in pairs]


def read_pairs(words):
    """The list of the tuples (name, kind) that words tell, or None."""
    pairs = []
    for word in words:
        name, _, kind = word.partition(":")
        if not is_name(name) or not is_kind(kind):
            return None
        pairs.append((name, kind))
    return pairs


def read_integer(word):
    """The integer that a word tells, or None."""
    figures = word[1:] if word.startswith("-") else word
    if not 1 <= len(figures) <= MOST_FIGURES or not all([mark in FIGURES for mark in figures]):
        return None
    if figures[0] == "0" and word != "0":
        return None
    return int(word)


def read_row(words, allowed):
    """The row that words tell, if it begins with one of the words that are allowed; or None."""
    if len(words) == 0 or words[0] not in allowed:
        return None
    roles = [role for role in ROLES[words[0]] if role != "many"]
    rest = words[len(roles) + 1:]
    parts = [_read_part(role, word) for role, word in zip(roles, words[1:])]
    if len(parts) < len(roles) or None in parts:
        return None
    if len(roles) == len(ROLES[words[0]]):
        return (words[0], *parts) if len(rest) == 0 else None
    # A list of names is always the last part of a row.
    return (words[0], *parts, rest) if is_list_of_names(rest) else None


def _read_part(role, word):
    if role in ("number", "row", "point"):
        return read_integer(word)
    return word if is_name(word) else None
