"""Random functions, and code that does just what they do, with points at many rows and right frame states."""

from backframes.code import Code
from backframes.errors import InvalidCode
from backframes.frames import Backs, FrameState
from backframes.source import Source
from tests.samples import CELL

VARIABLES = {"a": "number", "q": "object", "b": "number", "o": "object"}
INNER = {"n": "number", "x": "object", "m": "number", "y": "object"}
FIELDS = {"item": "number", "next": "object"}
STRAIGHT = (
    "number", "add", "sub", "times", "less", "same", "same", "copy", "nil", "new", "get", "get", "get", "put", "put", "put",
    "see", "see",
)


OBJECTS = ("new", "new", "new", "put", "put", "put", "put", "get", "get", "copy", "same", "see", "add", "number")


class Writer:
    """Makes random functions, which call one another."""

    def __init__(self, chance, words):
        self.chance = chance
        self.words = words

    def source(self, most_rows=9, calls=True):
        inner = [self.straight_row(INNER) for _ in range(self.chance.randint(0, 3))]
        inner.append(("return", self.chance.choice(["n", "m"])))
        many = self.chance.randint(2, most_rows)
        rows = [self.row(VARIABLES, many, calls) for _ in range(many)]
        rows.append(("return", self.pick(VARIABLES, "number")))
        params = [("a", "number"), ("q", "object")]
        inner_params = [("n", "number"), ("x", "object")]
        return Source([CELL, ("pin", [])], [
            ("f", params, [("b", "number"), ("o", "object")], "number", rows),
            ("g", inner_params, [("m", "number"), ("y", "object")], "number", inner),
        ])

    def pick(self, kinds, kind):
        return self.chance.choice([name for name in kinds if kinds[name] == kind])

    def row(self, kinds, many, calls):
        word = self.chance.random()
        if word < 0.12:
            return ("if", self.pick(kinds, "number"), self.chance.randint(0, many))
        if word < 0.17:
            return ("jump", self.chance.randint(0, many))
        if word < 0.27 and calls:
            return ("call", self.pick(kinds, "number"), "g", [self.pick(kinds, "number"), self.pick(kinds, "object")])
        return self.straight_row(kinds)

    def straight_row(self, kinds):
        word = self.chance.choice(self.words)
        number, thing = self.pick(kinds, "number"), self.pick(kinds, "object")
        if word == "number":
            return ("number", number, self.chance.randint(-2, 2))
        if word == "copy":
            kind = self.chance.choice(["number", "object"])
            return ("copy", self.pick(kinds, kind), self.pick(kinds, kind))
        if word == "nil":
            return ("nil", thing)
        if word == "new":
            return ("new", thing, self.chance.choice(["cell", "cell", "cell", "pin"]))
        if word == "see":
            return ("see", self.chance.choice(list(kinds)))
        if word in ("get", "put"):
            field = self.chance.choice(list(FIELDS))
            held = self.pick(kinds, FIELDS[field])
            return ("get", held, thing, field) if word == "get" else ("put", thing, field, held)
        kind = self.chance.choice(["number", "object"]) if word == "same" else "number"
        return (word, number, self.pick(kinds, kind), self.pick(kinds, kind))


class Compiler:
    """Code of the function f of a source, block by block, with inner calls put in or left."""

    def __init__(self, chance, source):
        self.chance = chance
        self.source = source
        self.bodies = {name: rows for name, _, _, _, rows in source.functions()}
        self.count = 0
        self.frames = {}
        self.unmade = {}
        self.own = {}

    def backs(self):
        rows = self.bodies["f"]
        heads = {0}
        for r, row in enumerate(rows):
            if row[0] in ("if", "jump"):
                heads.update([row[-1], r + 1])
        heads = sorted(r for r in heads if r < len(rows))
        numbers = {r: k + 1 for k, r in enumerate(heads)}
        params = {r: {name: self.new(f"{name}") for name in VARIABLES} for r in heads}
        first = {"a": self.new("a"), "q": self.new("q"), "b": self.new("b"), "o": self.new("o")}
        begin = [("number", first["b"], 0), ("nil", first["o"])]
        blocks = [([(first["a"], "number"), (first["q"], "object")], begin, ("go", 1, list(first.values())))]
        for r in heads:
            body, end = self.block(r, heads, dict(params[r]), numbers)
            blocks.append(([(params[r][name], VARIABLES[name]) for name in VARIABLES], body, end))
        reached = self.reached(blocks)
        blocks = self.kept(blocks, reached)
        code = Code(self.source, "f", blocks)
        states = []
        for point in code.points():
            unmade, own = self.unmade.get(point, {}), self.own.get(point, {})
            states.append(FrameState(code, point, self.frames[point], unmade=unmade, own=own, claims=[]))
        return Backs(code, states)

    def reached(self, blocks):
        met, waiting = set(), [0]
        while waiting:
            k = waiting.pop()
            if k not in met:
                met.add(k)
                waiting.extend(goal for goal, _ in goals(blocks[k][2]))
        return sorted(met)

    def kept(self, blocks, reached):
        numbers = {k: at for at, k in enumerate(reached)}
        kept = []
        for k in reached:
            params, rows, end = blocks[k]
            told = [(numbers[goal], given) for goal, given in goals(end)]
            if end[0] == "go":
                end = ("go", *told[0])
            elif end[0] == "if":
                end = ("if", end[1], *told)
            kept.append((params, rows, end))
        return kept

    def new(self, name):
        self.count += 1
        return f"{name}{self.count}"

    def block(self, r, heads, held, numbers):
        rows = self.bodies["f"]
        body = []
        self.add_point(body, [("f", r, held, VARIABLES)])
        while True:
            row = rows[r]
            if row[0] == "return":
                return body, ("return", held[row[1]])
            if row[0] == "jump":
                return body, ("go", numbers[row[1]], self.given(body, held))
            if row[0] == "if":
                given = self.given(body, held)
                return body, ("if", held[row[1]], (numbers[r + 1], given), (numbers[row[2]], given))
            if row[0] == "call" and self.chance.random() < 0.5:
                held[row[1]] = self.put_in(body, r, row, held)
            else:
                self.straight(body, row, held, [held])
            r += 1
            if r in heads:
                return body, ("go", numbers[r], self.given(body, held))
            if self.chance.random() < 0.3:
                self.add_point(body, [("f", r, held, VARIABLES)])

    def given(self, body, held):
        """The registers that are handed on at the end of a block."""
        return [held[name] for name in VARIABLES]

    def put_in(self, body, r, row, outer):
        """The rows of the called function in the place of the call."""
        zero, nil = self.new("z"), self.new("z")
        body.extend([("number", zero, 0), ("nil", nil)])
        held = {"n": outer[row[3][0]], "x": outer[row[3][1]], "m": zero, "y": nil}
        waiting = {name: outer[name] for name in outer if name != row[1]}
        for at, inner in enumerate(self.bodies["g"]):
            if self.chance.random() < 0.4:
                self.add_point(body, [("f", r, waiting, VARIABLES), ("g", at, held, INNER)])
            if inner[0] == "return":
                outer.update(waiting)
                return held[inner[1]]
            self.straight(body, inner, held, [held, waiting])

    def straight(self, body, row, held, tables):
        """The rows for a row that goes on to the next one; tables are all dicts of variables at this place."""
        if row[0] == "copy":
            held[row[1]] = held[row[2]]
            return
        if row[0] == "see":
            body.append(("see", held[row[1]]))
        elif row[0] == "put":
            body.append(("put", held[row[1]], row[2], held[row[3]]))
        else:
            made = self.new("t")
            used = [held.get(part, part) if not isinstance(part, list) else [held[name] for name in part] for part in row[2:]]
            if row[0] in ("number", "new"):
                used = list(row[2:])
            if row[0] == "get":
                used[1] = row[3]
            if row[0] == "call":
                used[0] = row[2]
            body.append((row[0], made, *used))
            held[row[1]] = made

    def add_point(self, body, frames):
        point = len(self.frames)
        self.frames[point] = [(name, r, {variable: ("in", held[variable]) for variable in held}) for name, r, held, _ in frames]
        numbers = [frames[-1][2][name] for name, kind in frames[-1][3].items() if kind == "number" and name in frames[-1][2]]
        if numbers and self.chance.random() < 0.3:
            body.append(("guard", self.chance.choice(numbers), point))
        else:
            body.append(("look", point))


def goals(end):
    if end[0] == "go":
        return [end[1:]]
    return list(end[2:]) if end[0] == "if" else []


class Thrifty(Compiler):
    """Code that does not make objects as long as nothing else refers to them: a variable has a number in their place."""

    def __init__(self, chance, source):
        super().__init__(chance, source)
        self.parts = {}

    def straight(self, body, row, held, tables):
        word = row[0]
        thing = held.get(row[2]) if word == "get" else held.get(row[1]) if word in ("put", "see") else None
        if word == "new":
            held[row[1]] = len(self.parts)
            fields = dict(next(fields for title, fields in self.source.classes() if title == row[2]))
            self.parts[held[row[1]]] = (row[2], {field: self.blank(body, fields[field]) for field in fields})
        elif word == "same" and isinstance(held[row[2]], int) | isinstance(held[row[3]], int):
            same = int(held[row[2]] == held[row[3]])
            held[row[1]] = self.new("t")
            body.append(("number", held[row[1]], same))
        elif word == "see" and isinstance(thing, int):
            # Any object of the class will do, as nothing else is seen of it.
            body.extend([("new", self.new("t"), self.parts[thing][0]), ("see", f"t{self.count}")])
        elif word == "get" and isinstance(thing, int):
            fields = self.parts[thing][1]
            held[row[1]] = fields[row[3]] if row[3] in fields else self.blank(body, FIELDS[row[3]])
        elif word == "put" and isinstance(thing, int):
            if row[2] in self.parts[thing][1]:
                self.parts[thing][1][row[2]] = held[row[3]]
        else:
            if word == "put":
                self.make(body, [held[row[3]]], tables)
            if word == "call":
                self.make(body, [held[name] for name in row[3]], tables)
            super().straight(body, row, held, tables)

    def blank(self, body, kind):
        name = self.new("z")
        body.append(("number", name, 0) if kind == "number" else ("nil", name))
        return name

    def led_to(self, values):
        met = []
        waiting = [value for value in values if isinstance(value, int)]
        while waiting:
            k = waiting.pop()
            if k not in met:
                met.append(k)
                waiting.extend(value for value in self.parts[k][1].values() if isinstance(value, int))
        return sorted(met)

    def make(self, body, values, tables):
        """Make the objects to which values lead, and let all that has them have their registers."""
        names = {k: self.new("m") for k in self.led_to(values)}
        body.extend(("new", names[k], self.parts[k][0]) for k in names)
        for table in [*tables, *[fields for _, fields in self.parts.values()]]:
            for name in table:
                if isinstance(table[name], int):
                    table[name] = names.get(table[name], table[name])
        for k in names:
            body.extend(("put", names[k], field, value) for field, value in self.parts[k][1].items())

    def given(self, body, held):
        self.make(body, list(held.values()), [held])
        return super().given(body, held)

    def add_point(self, body, frames):
        needed = self.led_to([value for _, _, held, _ in frames for value in held.values()])
        if len(needed) > 5:
            return
        names = {k: at for at, k in enumerate(needed)}

        def told(table):
            return {name: ("unmade", names[table[name]]) if isinstance(table[name], int) else ("in", table[name]) for name in table}

        point = len(self.frames)
        super().add_point(body, frames)
        self.frames[point] = [(name, r, told(held)) for name, r, held, _ in frames]
        self.unmade[point] = {names[k]: (self.parts[k][0], told(self.parts[k][1])) for k in needed}


class Owner(Thrifty):
    """Code that makes all objects, but does not read again what it has put into those that are its own."""

    def __init__(self, chance, source):
        super().__init__(chance, source)
        self.names = {}

    def straight(self, body, row, held, tables):
        thing = held.get(row[1]) if row[0] in ("put", "see") else None
        if row[0] == "new":
            self.names[len(self.parts)] = self.new("m")
            body.append(("new", self.names[len(self.parts)], row[2]))
        if isinstance(thing, int):
            value = held.get(row[-1])
            rest = [] if row[0] == "see" else [row[2], self.names.get(value, value)]
            body.append((row[0], self.names[thing], *rest))
        if row[0] != "see" or not isinstance(thing, int):
            super().straight(body, row, held, tables)

    def make(self, body, values, tables):
        """The objects to which values lead are not own ones any more."""
        names = {k: self.names[k] for k in self.led_to(values)}
        for table in [*tables, *[fields for _, fields in self.parts.values()]]:
            for name in table:
                if isinstance(table[name], int):
                    table[name] = names.get(table[name], table[name])

    def add_point(self, body, frames):
        needed = self.led_to([value for _, _, held, _ in frames for value in held.values()])

        def told(table):
            return {name: ("in", self.names.get(table[name], table[name])) for name in table}

        point = len(self.frames)
        Compiler.add_point(self, body, frames)
        self.frames[point] = [(name, r, told(held)) for name, r, held, _ in frames]
        self.own[point] = {self.names[k]: (self.parts[k][0], told(self.parts[k][1])) for k in needed}


COMPILERS = {"plain": Compiler, "thrifty": Thrifty, "owner": Owner}


def compiled_backs(chance, most_rows=9, calls=True, compiler="plain"):
    """Code with right frame states for each of its points."""
    while True:
        try:
            source = Writer(chance, STRAIGHT if compiler == "plain" else OBJECTS).source(most_rows, calls)
            return COMPILERS[compiler](chance, source).backs()
        except InvalidCode:
            continue
