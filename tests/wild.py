"""Random code with random frame states, for tests that hold the program against plainer ways to the same."""

import itertools

from backframes.code import Code
from backframes.errors import InvalidCode
from backframes.frames import Backs, FrameState
from tests.samples import function_source, numbers, objects

AGAIN = ("number", "nil", "add", "sub", "times", "less", "same")
FIELDS = {"item": "number", "next": "object"}
WORDS = (*AGAIN, *AGAIN, "new", "get", "get", "put", "see", "call")

# A function of numbers and objects that calls another one, makes objects and loops; code may stand for it.
MAIN_ROWS = [
    ("see", "a"), ("new", "o", "cell"), ("put", "o", "item", "a"), ("call", "b", "less1", ["a", "o"]), ("see", "b"),
    ("put", "o", "next", "q"), ("copy", "q", "o"), ("copy", "a", "b"), ("if", "a", 11), ("see", "q"), ("jump", 1),
    ("get", "q", "q", "next"), ("get", "b", "q", "item"), ("return", "b"),
]
LESS_ROWS = [
    ("number", "one", 1), ("sub", "r", "n", "one"), ("put", "x", "item", "r"), ("less", "s", "r", "one"), ("if", "s", 7),
    ("number", "r", 0), ("see", "x"), ("return", "r"),
]


def wild_source():
    less1 = ("less1", [("n", "number"), ("x", "object")], numbers("one", "r", "s"), "number", LESS_ROWS)
    return function_source(MAIN_ROWS, [("a", "number"), ("q", "object")], numbers("b") + objects("o"), more=[less1])


def wild_backs(chance, words=WORDS, most_blocks=5, most_rows=3, calls=True):
    """Code of the function above that does anything at all, with frame states that tell anything."""
    while True:
        try:
            code = Code(wild_source(), "f", wild_blocks(chance, words, most_blocks, most_rows, calls))
        except InvalidCode:
            continue
        return Backs(code, [wild_state(chance, code, point) for point in code.points()])


def wild_blocks(chance, words, most_blocks, most_rows, calls):
    many = chance.randint(1, most_blocks)
    goals = [wild_goals(chance, k, many) for k in range(many)]
    above = [[j for j in range(many) if j != k and k not in reached(goals, j)] for k in range(many)]
    maker = RowMaker(chance, words if calls else [word for word in words if word != "call"])
    heads = []
    for k in range(many):
        kinds = ["number", "object"] if k == 0 else chance.choices(["number", "object"], k=chance.randint(0, 2))
        heads.append([(maker.new_name(kind), kind) for kind in kinds])
    bodies = {}
    while len(bodies) < many:
        # A block is filled once all that stand above it are.
        k = next(k for k in range(many) if k not in bodies and all(j in bodies for j in above[k]))
        names = [name for j in [*above[k], k] for name, _ in heads[j]]
        names += [name for j in above[k] for name in maker.made_in[j]]
        bodies[k] = maker.fill(k, names, chance.randint(0, most_rows), heads, goals)
    return [(heads[k], *bodies[k]) for k in range(many)]


def wild_goals(chance, k, many):
    if k == many - 1:
        return chance.choice([[], [], [chance.randint(1, k), chance.randint(1, k)]]) if k else []
    return [k + 1] if chance.random() < 0.4 else [k + 1, chance.randint(1, many - 1)]


def reached(goals, barred):
    met = set()
    waiting = [0]
    while waiting:
        k = waiting.pop()
        if k not in met and k != barred:
            met.add(k)
            waiting.extend(goals[k])
    return met


class RowMaker:
    def __init__(self, chance, words):
        self.chance = chance
        self.words = words
        self.kinds = {}
        self.counter = itertools.count()
        self.points = list(range(12))
        chance.shuffle(self.points)
        self.made_in = {}

    def new_name(self, kind):
        name = f"r{next(self.counter)}"
        self.kinds[name] = kind
        return name

    def pick(self, names, kind):
        return self.chance.choice([name for name in names if self.kinds[name] == kind])

    def fill(self, k, names, many, heads, goals):
        """The rows and the end of block k, over registers with these names."""
        rows = []
        own = []
        names = list(names)
        if self.points and self.chance.random() < 0.7:
            many += 1
        at = self.chance.randint(0, max(many - 1, 0))
        for r in range(many):
            row = self.point_row(names) if r == at and self.points and self.chance.random() < 0.8 else self.row(names)
            rows.append(row)
            if row[0] not in ("put", "see", "guard", "look"):
                names.append(row[1])
                own.append(row[1])
        self.made_in[k] = own
        given = [(goal, [self.pick(names, kind) for _, kind in heads[goal]]) for goal in goals[k]]
        if not given:
            return rows, ("return", self.pick(names, "number"))
        return rows, ("go", *given[0]) if len(given) == 1 else ("if", self.pick(names, "number"), *given)

    def point_row(self, names):
        point = self.points.pop()
        return ("look", point) if self.chance.random() < 0.5 else ("guard", self.pick(names, "number"), point)

    def row(self, names):
        word = self.chance.choice(self.words)
        if word == "see":
            return ("see", self.chance.choice(names))
        if word == "put":
            field = self.chance.choice(list(FIELDS))
            return ("put", self.pick(names, "object"), field, self.pick(names, FIELDS[field]))
        if word == "get":
            field = self.chance.choice(list(FIELDS))
            used = self.pick(names, "object")
            return ("get", self.new_name(FIELDS[field]), used, field)
        if word in ("nil", "new"):
            return (word, self.new_name("object"), *(["cell"] if word == "new" else []))
        if word == "number":
            return ("number", self.new_name("number"), self.chance.randint(-2, 2))
        kind = self.chance.choice(["number", "object"]) if word == "same" else "number"
        one, other = self.pick(names, kind), self.pick(names, kind)
        if word == "call":
            return ("call", self.new_name("number"), "less1", [one, self.pick(names, "object")])
        return (word, self.new_name("number"), one, other)


def wild_state(chance, code, point):
    """A frame state of a point in which all variables have recipes, and what is unmade or own may be."""
    kinds = {name: code.kinds()[name] for name in code.usable(point)}
    unmade = chance.choice([[], [], [0], [1, 3]])
    row = chance.choice([0, 1, 3, 5, 8, 9, 11, 13])
    variables = {"a": "number", "q": "object", "b": "number", "o": "object"}
    frames = [("f", row, {name: wild_recipe(chance, kinds, variables[name], unmade) for name in variables})]
    if row == 3 and chance.random() < 0.7:
        inner = {"n": "number", "x": "object", "one": "number", "r": "number", "s": "number"}
        recipes = {name: wild_recipe(chance, kinds, inner[name], unmade) for name in inner}
        frames.append(("less1", chance.randint(0, 7), recipes))
    told = {k: wild_told(chance, kinds, unmade) for k in unmade}
    own = {name: wild_told(chance, kinds, []) for name in kinds if kinds[name] == "object" and chance.random() < 0.1}
    claims = []
    if chance.random() < 0.2:
        claims = [(chance.choice(["zero", "other"]), wild_recipe(chance, kinds, "number", []))]
    return FrameState(code, point, frames, unmade=told, own=own, claims=claims)


def wild_told(chance, kinds, unmade):
    return ("cell", {field: wild_recipe(chance, kinds, FIELDS[field], unmade) for field in FIELDS})


def wild_recipe(chance, kinds, kind, unmade, left=2):
    there = [("in", name) for name in kinds if kinds[name] == kind]
    if kind == "object":
        return chance.choice([*there, *there, ("nil",), *[("unmade", k) for k in unmade]])
    if left and chance.random() < 0.3:
        word = chance.choice(["add", "sub", "times", "less", "same"])
        inner = chance.choice(["number", "object"]) if word == "same" else "number"
        return (word, *[wild_recipe(chance, kinds, inner, unmade, left - 1) for _ in range(2)])
    return chance.choice([*there, *there, ("number", chance.randint(-3, 3))])
