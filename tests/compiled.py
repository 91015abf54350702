"""Random functions, and code that does just what they do, with points at many rows and right frame states."""

from backframes.code import Code
from backframes.errors import InvalidCode
from backframes.frames import Backs, FrameState
from backframes.source import Source
from tests.samples import CELL

VARIABLES = {"a": "number", "q": "object", "b": "number", "o": "object"}
INNER = {"n": "number", "x": "object", "m": "number", "y": "object"}
FIELDS = {"item": "number", "next": "object"}
STRAIGHT = (
    "number", "add", "sub", "times", "less", "same", "same", "copy", "nil", "new", "get", "get", "get", "put", "put", "put",
    "see", "see",
)


class Writer:
    """Makes random functions, which call one another."""

    def __init__(self, chance):
        self.chance = chance

    def source(self, most_rows=9, calls=True):
        inner = [self.straight_row(INNER) for _ in range(self.chance.randint(0, 3))]
        inner.append(("return", self.chance.choice(["n", "m"])))
        many = self.chance.randint(2, most_rows)
        rows = [self.row(VARIABLES, many, calls) for _ in range(many)]
        rows.append(("return", self.pick(VARIABLES, "number")))
        params = [("a", "number"), ("q", "object")]
        inner_params = [("n", "number"), ("x", "object")]
        return Source([CELL, ("pin", [])], [
            ("f", params, [("b", "number"), ("o", "object")], "number", rows),
            ("g", inner_params, [("m", "number"), ("y", "object")], "number", inner),
        ])

    def pick(self, kinds, kind):
        return self.chance.choice([name for name in kinds if kinds[name] == kind])

    def row(self, kinds, many, calls):
        word = self.chance.random()
        if word < 0.12:
            return ("if", self.pick(kinds, "number"), self.chance.randint(0, many))
        if word < 0.17:
            return ("jump", self.chance.randint(0, many))
        if word < 0.27 and calls:
            return ("call", self.pick(kinds, "number"), "g", [self.pick(kinds, "number"), self.pick(kinds, "object")])
        return self.straight_row(kinds)

    def straight_row(self, kinds):
        word = self.chance.choice(STRAIGHT)
        number, thing = self.pick(kinds, "number"), self.pick(kinds, "object")
        if word == "number":
            return ("number", number, self.chance.randint(-2, 2))
        if word == "copy":
            kind = self.chance.choice(["number", "object"])
            return ("copy", self.pick(kinds, kind), self.pick(kinds, kind))
        if word == "nil":
            return ("nil", thing)
        if word == "new":
            return ("new", thing, self.chance.choice(["cell", "cell", "cell", "pin"]))
        if word == "see":
            return ("see", self.chance.choice(list(kinds)))
        if word in ("get", "put"):
            field = self.chance.choice(list(FIELDS))
            held = self.pick(kinds, FIELDS[field])
            return ("get", held, thing, field) if word == "get" else ("put", thing, field, held)
        kind = self.chance.choice(["number", "object"]) if word == "same" else "number"
        return (word, number, self.pick(kinds, kind), self.pick(kinds, kind))


class Compiler:
    """Code of the function f of a source, block by block, with inner calls put in or left."""

    def __init__(self, chance, source):
        self.chance = chance
        self.source = source
        self.bodies = {name: rows for name, _, _, _, rows in source.functions()}
        self.count = 0
        self.points = []
        self.frames = {}

    def backs(self):
        rows = self.bodies["f"]
        heads = {0}
        for r, row in enumerate(rows):
            if row[0] in ("if", "jump"):
                heads.update([row[-1], r + 1])
        heads = sorted(r for r in heads if r < len(rows))
        numbers = {r: k + 1 for k, r in enumerate(heads)}
        params = {r: {name: self.new(f"{name}") for name in VARIABLES} for r in heads}
        first = {"a": self.new("a"), "q": self.new("q"), "b": self.new("b"), "o": self.new("o")}
        begin = [("number", first["b"], 0), ("nil", first["o"])]
        blocks = [([(first["a"], "number"), (first["q"], "object")], begin, ("go", 1, list(first.values())))]
        for r in heads:
            body, end = self.block(r, heads, dict(params[r]), numbers)
            blocks.append(([(params[r][name], VARIABLES[name]) for name in VARIABLES], body, end))
        reached = self.reached(blocks)
        blocks = self.kept(blocks, reached)
        code = Code(self.source, "f", blocks)
        states = []
        for point in code.points():
            states.append(FrameState(code, point, self.frames[point], unmade={}, own={}, claims=[]))
        return Backs(code, states)

    def reached(self, blocks):
        met, waiting = set(), [0]
        while waiting:
            k = waiting.pop()
            if k not in met:
                met.add(k)
                waiting.extend(goal for goal, _ in goals(blocks[k][2]))
        return sorted(met)

    def kept(self, blocks, reached):
        numbers = {k: at for at, k in enumerate(reached)}
        kept = []
        for k in reached:
            params, rows, end = blocks[k]
            told = [(numbers[goal], given) for goal, given in goals(end)]
            if end[0] == "go":
                end = ("go", *told[0])
            elif end[0] == "if":
                end = ("if", end[1], *told)
            kept.append((params, rows, end))
        return kept

    def new(self, name):
        self.count += 1
        return f"{name}{self.count}"

    def block(self, r, heads, held, numbers):
        rows = self.bodies["f"]
        body = []
        self.add_point(body, [("f", r, held, VARIABLES)])
        while True:
            row = rows[r]
            if row[0] == "return":
                return body, ("return", held[row[1]])
            given = [held[name] for name in VARIABLES]
            if row[0] == "jump":
                return body, ("go", numbers[row[1]], given)
            if row[0] == "if":
                return body, ("if", held[row[1]], (numbers[r + 1], given), (numbers[row[2]], given))
            if row[0] == "call" and self.chance.random() < 0.5:
                held[row[1]] = self.put_in(body, r, row, held)
            else:
                self.straight(body, row, held)
            r += 1
            if r in heads:
                return body, ("go", numbers[r], [held[name] for name in VARIABLES])
            if self.chance.random() < 0.3:
                self.add_point(body, [("f", r, held, VARIABLES)])

    def put_in(self, body, r, row, outer):
        """The rows of the called function in the place of the call."""
        zero, nil = self.new("z"), self.new("z")
        body.extend([("number", zero, 0), ("nil", nil)])
        held = {"n": outer[row[3][0]], "x": outer[row[3][1]], "m": zero, "y": nil}
        waiting = {name: outer[name] for name in outer if name != row[1]}
        for at, inner in enumerate(self.bodies["g"]):
            if self.chance.random() < 0.4:
                self.add_point(body, [("f", r, waiting, VARIABLES), ("g", at, held, INNER)])
            if inner[0] == "return":
                return held[inner[1]]
            self.straight(body, inner, held)

    def straight(self, body, row, held):
        if row[0] == "copy":
            held[row[1]] = held[row[2]]
            return
        if row[0] == "see":
            body.append(("see", held[row[1]]))
        elif row[0] == "put":
            body.append(("put", held[row[1]], row[2], held[row[3]]))
        else:
            made = self.new("t")
            used = [held.get(part, part) if not isinstance(part, list) else [held[name] for name in part] for part in row[2:]]
            if row[0] in ("number", "new"):
                used = list(row[2:])
            if row[0] == "get":
                used[1] = row[3]
            if row[0] == "call":
                used[0] = row[2]
            body.append((row[0], made, *used))
            held[row[1]] = made

    def add_point(self, body, frames):
        point = len(self.frames)
        self.frames[point] = [(name, r, {variable: ("in", held[variable]) for variable in held}) for name, r, held, _ in frames]
        numbers = [frames[-1][2][name] for name, kind in frames[-1][3].items() if kind == "number" and name in frames[-1][2]]
        if numbers and self.chance.random() < 0.3:
            body.append(("guard", self.chance.choice(numbers), point))
        else:
            body.append(("look", point))


def goals(end):
    if end[0] == "go":
        return [end[1:]]
    return list(end[2:]) if end[0] == "if" else []


def compiled_backs(chance, most_rows=9, calls=True):
    """Code with right frame states for each of its points."""
    while True:
        try:
            return Compiler(chance, Writer(chance).source(most_rows, calls)).backs()
        except InvalidCode:
            continue
