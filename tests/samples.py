"""Sources, code and odd things that several tests use."""

import copy

from backframes.code import Code
from backframes.errors import CodeError
from backframes.frames import Backs, FrameState
from backframes.machine import Machine, State
from backframes.source import Source

CELL = ("cell", [("item", "number"), ("next", "object")])
BOX = ("box", [("item", "number")])
EMPTY = ("empty", [])

ALL_ROWS = [
    ("number", "m", 5),
    ("add", "m", "n", "n"),
    ("sub", "m", "n", "m"),
    ("times", "m", "n", "m"),
    ("less", "m", "n", "m"),
    ("nil", "p"),
    ("new", "p", "cell"),
    ("copy", "m", "n"),
    ("copy", "p", "o"),
    ("same", "m", "n", "m"),
    ("same", "m", "o", "p"),
    ("get", "m", "o", "item"),
    ("get", "p", "o", "next"),
    ("put", "o", "item", "n"),
    ("put", "o", "next", "p"),
    ("call", "m", "all", ["n", "o"]),
    ("call", "p", "make", []),
    ("see", "m"),
    ("see", "p"),
    ("if", "m", 0),
    ("jump", 21),
    ("return", "m"),
]
ALL = ("all", [("n", "number"), ("o", "object")], [("m", "number"), ("p", "object")], "number", ALL_ROWS)
MAKE = ("make", [], [("c", "object")], "object", [("new", "c", "cell"), ("return", "c")])

# Each form of a row and of an end, a loop, and a block that two goals share.
ALL_BLOCKS = [
    (
        [("a", "number"), ("b", "object")],
        [
            ("number", "n", -7),
            ("add", "s", "a", "n"),
            ("sub", "d", "a", "s"),
            ("times", "t", "a", "d"),
            ("less", "l", "a", "t"),
            ("nil", "z"),
            ("new", "c", "cell"),
            ("same", "e", "a", "l"),
            ("same", "u", "b", "z"),
        ],
        ("go", 1, ["a", "b"]),
    ),
    (
        [("i", "number"), ("x", "object")],
        [
            ("guard", "i", 7),
            ("get", "g", "x", "item"),
            ("get", "h", "x", "next"),
            ("put", "x", "item", "g"),
            ("put", "c", "next", "h"),
        ],
        ("if", "g", (1, ["g", "h"]), (2, ["i"])),
    ),
    (
        [("j", "number")],
        [
            ("call", "k", "all", ["j", "c"]),
            ("call", "o", "make", []),
            ("see", "k"),
            ("see", "o"),
            ("look", 2),
        ],
        ("return", "k"),
    ),
]


def all_source():
    return Source(copy.deepcopy([CELL, BOX, EMPTY]), copy.deepcopy([ALL, MAKE]))


def all_code():
    return Code(all_source(), "all", copy.deepcopy(ALL_BLOCKS))


def all_states(code):
    """Frame states for the points of ALL_BLOCKS, with each form of a recipe."""
    deep = ("sub", ("times", ("in", "s"), ("number", 3)), ("less", ("in", "i"), ("same", ("in", "c"), ("nil",))))
    inner = {"n": ("in", "i"), "o": ("unmade", 1), "m": deep, "p": ("in", "x")}
    unmade = {
        1: ("cell", {"item": ("add", ("in", "t"), ("number", -1)), "next": ("unmade", 0)}),
        0: ("cell", {"item": ("number", 4), "next": ("unmade", 1)}),
    }
    own = {"c": ("cell", {"item": ("number", 0), "next": ("nil",)})}
    claims = [("other", ("in", "i")), ("zero", ("in", "u"))]
    outer = {"n": ("in", "a"), "o": ("in", "b")}
    seven = FrameState(code, 7, [("all", 15, outer), ("all", 3, inner)], unmade=unmade, own=own, claims=claims)
    two = FrameState(code, 2, [("all", 21, {"m": ("in", "k")})], unmade={}, own={}, claims=[])
    return [seven, two]


def all_backs():
    code = all_code()
    return Backs(code, all_states(code))


def function_source(rows, params=(), others=(), kind="number", more=()):
    """A source with the classes of above and a function f with these rows."""
    first = ("f", list(params), list(others), kind, list(rows))
    return Source([CELL, BOX, EMPTY], [first, *more])


def numbers(*names):
    return [(name, "number") for name in names]


def objects(*names):
    return [(name, "object") for name in names]


def odd_things():
    """Objects of many kinds, none of which is a name, a row, an end, a list of rows or a recipe."""
    round_list = []
    round_list.append(round_list)
    source = all_source()
    backs = all_backs()
    state = State(source, [("make", 0, {"c": None})], {})
    machine = Machine(source, "make", [])
    return [
        None, True, False, 10 ** 9 + 1, -(10 ** 9) - 1, 10 ** 5000, 1.0, 0.0, float("nan"), 2j,
        "", "Zz", "9a", b"f", bytearray(b"f"), memoryview(b"f"), (), (1,), ("f",), ("object", -1),
        ("object", True), ("object", 1.0), ("in",), ("nil", 1), ("nil", "c", "c"), (None, None), (None, None, None),
        ([], []), [None], [[]], round_list, {1: 2}, {"Zz": 1}, {None: None}, {(): ()}, set(), {1}, frozenset(),
        frozenset({"f"}), range(3), slice(1), Ellipsis, NotImplemented, object(), object, int, len, lambda: 0,
        iter([]), (part for part in []), zip(), ValueError("f"), CodeError("f"), deep_tuple(), deep_list(),
        source, backs, backs.code, backs.state_at(2), state, machine,
    ]


def deep_tuple():
    """A tuple that looks like a recipe and is far too deep to be gone through."""
    deep = ("number", 1)
    for _ in range(5000):
        deep = ("add", deep, ("number", 1))
    return deep


def deep_list():
    deep = []
    for _ in range(5000):
        deep = [deep]
    return deep


def paths_in(thing):
    """The paths to all parts of a thing of lists, tuples and dicts, itself too, as tuples of keys."""
    paths = [()]
    keys = []
    if isinstance(thing, dict):
        keys = list(thing)
    elif isinstance(thing, (list, tuple)):
        keys = list(range(len(thing)))
    for key in keys:
        paths.extend([(key, *path) for path in paths_in(thing[key])])
    return paths


def at_path(thing, path):
    for key in path:
        thing = thing[key]
    return thing


def with_part(thing, path, part):
    """A copy of a thing with another part at a path."""
    if not path:
        return part
    if isinstance(thing, dict):
        return {key: with_part(thing[key], path[1:], part) if key == path[0] else thing[key] for key in thing}
    parts = [with_part(inner, path[1:], part) if k == path[0] else inner for k, inner in enumerate(thing)]
    return tuple(parts) if isinstance(thing, tuple) else parts
