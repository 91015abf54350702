"""Heaps of objects that are told by terms, of which a part is known."""

from backframes.errors import InvalidArgument
from backframes.rewriting import Rewriter
from backframes.termforms import ObjectTerm


class Names:
    """The names of the objects that got out: what stands in the place of their atoms."""

    def __init__(self):
        self.out = {}

    def fixed(self, atom):
        return self.out.get(atom)

    def settled(self, atom):
        return None


class TermHeap:
    """A heap of known objects, of objects that got out, and of old ones, with the events that were told outside."""

    def __init__(self, terms, facts, source, name):
        self._terms = terms
        self._facts = facts
        self._source = source
        self._name = name
        self._born = 0
        # Known objects by their atoms, as tuples (class, dict of fields).
        self._known = {}
        # Objects that are out by their atoms, as tuples (class, number of the event).
        self._out = {}
        self._events = []
        # What was written to each field since the last call, as tuples (object, value).
        self._writes = {}
        self._calls = 0
        # Old objects that were returned by their atoms, with how many events there were then.
        self._returned = {}
        self._begin_names({})

    def _begin_names(self, out):
        self._names = Names()
        self._names.out = dict(out)
        self._renaming = Rewriter(self._terms, self._names)

    def new_object(self, title, fields):
        """A known object of a class."""
        told = self._source.fields_of(title)
        if told is None:
            raise InvalidArgument("class")
        term = self._terms.of_atom(("born", self._name, self._born), "object")
        self._born += 1
        held = {field: fields[field] if field in fields else self._blank(field) for field, _ in told}
        self._known[term.number] = (title, held)
        return term

    def _blank(self, field):
        is_number = self._source.field_kind(field) == "number"
        return self._terms.constant(0) if is_number else self._terms.nil()

    def now(self, term):
        """A term as it is called now, with all that is known."""
        term = self._facts.known(term)
        if len(self._names.out) == 0:
            return term
        return self._facts.known(self._renaming.renewed(term))

    def status(self, term):
        """What an object term is: "nil", "known", "out" or "old"."""
        return self._status_of(self.now(term).number)

    def _status_of(self, atom):
        if atom is None:
            return "nil"
        if atom in self._known:
            return "known"
        return "out" if atom in self._out else "old"

    def content(self, term):
        """The class and the fields of a known object; None of all others."""
        atom = self.now(term).number
        if atom not in self._known:
            return None
        title, fields = self._known[atom]
        return (title, self._fields_now(fields))

    def events(self):
        return [_copied_event(event) for event in self._events]

    def event_at(self, at):
        """The event with a number; None if there are not so many."""
        return self._events[at] if at < len(self._events) else None

    def many_events(self):
        return len(self._events)

    def put(self, term, field, value):
        """Write to a field of an object."""
        target = self.now(term)
        if self._has_no_field(target.number, field):
            return
        if target.number in self._known:
            self._known[target.number][1][field] = value
            return
        outs = self._let_out([value])
        value = self.now(value)
        self._writes.setdefault(field, []).append((target, value))
        self._events.append(("put", target, field, value, outs))

    def _has_no_field(self, atom, field):
        """Whether an object is surely nil, or of a class without a field."""
        if atom is None:
            return True
        told = self._known.get(atom, self._out.get(atom))
        return told is not None and field not in dict(self._source.fields_of(told[0]))

    def _let_out(self, values):
        """Let all known objects get out to which values lead, with the event that comes next; returns the outs."""
        number = len(self._events)
        titles = []
        fields = []
        outs = []
        waiting = [self.now(value) for value in reversed(values)]
        while waiting:
            term = waiting.pop()
            if self._terms.kind(term) == "number" or term.number not in self._known:
                continue
            title, held = self._known.pop(term.number)
            out = self._terms.of_atom(("out", number, len(outs)), "object")
            self._names.out[term.number] = out
            self._out[out.number] = (title, number)
            outs.append(out)
            titles.append(title)
            fields.append(held)
            waiting.extend([self._facts.known(held[field]) for field in reversed(list(held))])
        self._renaming.forget()
        told = [self._fields_now(held) for held in fields]
        for out, held in zip(outs, told):
            for field in held:
                self._writes.setdefault(field, []).append((out, held[field]))
        return [(title, list(held.values())) for title, held in zip(titles, told)]

    def _fields_now(self, held):
        """A dict of fields with their terms as they are called now."""
        return {field: self.now(held[field]) for field in held}

    def see(self, term):
        """Tell a value outside."""
        seen = self.now(term)
        if self._terms.kind(seen) == "object":
            told = self._known.get(seen.number, self._out.get(seen.number))
            if seen.number is None:
                seen = None
            elif told is not None:
                seen = told[0]
        self._events.append(("see", seen))

    def leave(self, values):
        """Hand values out at the end."""
        outs = self._let_out(values)
        self._events.append(("leave", [self.now(value) for value in values], outs))

    def called(self, function, values):
        """Let a function be run with values; returns its result."""
        outs = self._let_out(values)
        number = len(self._events)
        self._events.append(("call", function, [self.now(value) for value in values], outs))
        # What is called may write to all that is out, also to what got out with it.
        self._writes = {}
        self._calls += 1
        kind = self._source.function_at(function).result
        return self._noted(self._terms.asked("call", kind, [function, number]))

    def _noted(self, term):
        """A term that is returned, as it is called now; if it is an old object, it is noted when it first was."""
        term = self.now(term)
        if self._terms.kind(term) == "object" and self._status_of(term.number) == "old":
            self._returned.setdefault(term.number, len(self._events))
        return term

    def get(self, term, field):
        """What a field of an object has."""
        target = self.now(term)
        if self._has_no_field(target.number, field):
            return self._blank(field)
        if target.number in self._known:
            return self._noted(self._known[target.number][1][field])
        writes = self._writes.get(field, [])
        left = len(writes)
        while left > 0 and self.like(writes[left - 1][0], target) == "unlike":
            left -= 1
        if left > 0 and target.number in self._out and self.like(writes[left - 1][0], target) == "same":
            return self._noted(writes[left - 1][1])
        parts = [target, field, self._calls]
        for one, value in reversed(writes[:left]):
            parts.extend([self.now(one), self.now(value)])
        return self._noted(self._terms.asked("get", self._source.field_kind(field), parts))

    def like(self, one, other):
        """Whether two object terms are the same object: "same", "unlike" or "open"."""
        one = self.now(one)
        other = self.now(other)
        if one.number == other.number:
            return "same"
        words = [self._status_of(one.number), self._status_of(other.number)]
        if "known" in words or words == ["out", "out"] or sorted(words) == ["nil", "out"]:
            return "unlike"
        if words == ["out", "old"] and self._is_ahead_of(other.number, one.number):
            return "unlike"
        if words == ["old", "out"] and self._is_ahead_of(one.number, other.number):
            return "unlike"
        return self._facts.like(one, other)

    def _is_ahead_of(self, old, out):
        """Whether an old object was there before another one got out."""
        if self._terms.atom(old)[0] == "unknown":
            return True
        many = [self._returned[atom] for atom in self._returned if self.now(ObjectTerm(atom)).number == old]
        return len(many) > 0 and min(many) <= self._out[out][1]

    def same(self, one, other):
        """The number term of whether two terms are the same."""
        if self._terms.kind(one) == "number":
            return self.now(self._terms.made("same", one, other))
        word = self.like(one, other)
        if word == "open":
            return self._terms.made("same", self.now(one), self.now(other))
        return self._terms.constant(1 if word == "same" else 0)

    def twin(self):
        """A heap with the same facts that is alike and goes on by itself."""
        other = TermHeap(self._terms, self._facts, self._source, self._name)
        other._born = self._born
        other._known = {atom: (self._known[atom][0], dict(self._known[atom][1])) for atom in self._known}
        other._out = dict(self._out)
        other._events = list(self._events)
        other._writes = {field: list(self._writes[field]) for field in self._writes}
        other._calls = self._calls
        other._returned = dict(self._returned)
        other._begin_names(self._names.out)
        return other


def _copied_event(event):
    """An event with new lists."""
    return tuple([_copied_lists(part) for part in event])


def _copied_lists(part):
    if isinstance(part, list):
        return [_copied_lists(inner) for inner in part]
    return tuple([_copied_lists(inner) for inner in part]) if isinstance(part, tuple) else part
