"""The interpreter's frames at a point, held against the frame state of the point and the code at the end of a way."""

from backframes.termrows import blank_objects, fill_objects, recipe_term


class Holding:
    """A frame state at the end of a way: the values that its recipes have, by the registers and objects of the code."""

    def __init__(self, backs, state, way):
        self._backs = backs
        self._state = state
        self._way = way
        self._heap = way.heap.twin()
        told = state.unmade()
        self._unmade = blank_objects(self._heap, told)
        fill_objects(way.terms, self._heap, told, way.registers, self._unmade)
        self.places = [(name, row) for name, row, _ in state.frames()]

    def value_of(self, recipe):
        """The term of a recipe."""
        return recipe_term(self._way.terms, self._heap, recipe, self._way.registers, self._unmade)

    def pairs(self, follower):
        """The list of all variables that recipes tell, as tuples (value of the interpreter, value of the code)."""
        pairs = []
        for at, (_, _, recipes) in enumerate(self._state.frames()):
            for name in recipes:
                pairs.append((follower.value_of(at, name), self.value_of(recipes[name])))
        return pairs

    def are_held(self, follower, pairs):
        """Whether pairs of values are known to be the same, each known object being held against just one other."""
        places = {}
        others = {}
        waiting = list(pairs)
        while waiting:
            one, other = waiting.pop()
            if self._way.terms.kind(one) == "number":
                if not self._are_same_numbers(one, other):
                    return False
                continue
            one = follower.heap.now(one)
            other = self._heap.now(other)
            content = follower.heap.content(one)
            other_content = self._heap.content(other)
            if content is None and other_content is None:
                if self._way.facts.like(one, other) != "same":
                    return False
                continue
            if content is None or other_content is None or content[0] != other_content[0]:
                return False
            if places.get(one.number) != other.number or others.get(other.number) != one.number:
                if one.number in places or other.number in others:
                    return False
                places[one.number] = other.number
                others[other.number] = one.number
                waiting.extend([(content[1][field], other_content[1][field]) for field in content[1]])
        return True

    def _are_same_numbers(self, one, other):
        return self._way.facts.zero(self._way.terms.made("sub", one, other)) == "zero"

    def is_fit(self):
        """Whether all own registers have such objects, and all claims hold."""
        if not all([self._is_own_object(name) for name in self._state.own()]):
            return False
        if not self._are_apart():
            return False
        return all([self._way.facts.zero(self.value_of(recipe)) == word for word, recipe in self._state.claims()])

    def _is_own_object(self, name):
        """Whether an own register has a known object of its class, with its fields."""
        title, recipes = self._state.own()[name]
        content = self._heap.content(self._way.registers[name])
        if content is None or content[0] != title:
            return False
        return all([self._are_same(content[1][field], self.value_of(recipes[field])) for field in recipes])

    def _are_same(self, one, other):
        if self._way.terms.kind(one) == "number":
            return self._are_same_numbers(one, other)
        return self._heap.like(one, other) == "same"

    def _atom_of(self, name):
        return self._heap.now(self._way.registers[name]).number

    def _are_apart(self):
        """Whether nothing else that is read later refers to the objects of own registers."""
        own = self._state.own()
        barred = {self._atom_of(name): True for name in own}
        if len(barred) < len(own):
            return False
        kinds = self._backs.code.kinds()
        names = [name for name in self._backs.read_later(self._state.point) if kinds[name] == "object"]
        waiting = [self._way.registers[name] for name in names if name not in own]
        met = {}
        while waiting:
            term = waiting.pop()
            number = self._heap.now(term).number
            if number in barred:
                return False
            content = self._heap.content(term)
            if content is None or number in met:
                continue
            met[number] = True
            fields = content[1]
            waiting.extend([fields[field] for field in fields if self._way.terms.kind(fields[field]) == "object"])
        return True
