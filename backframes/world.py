"""The objects and the log of a run, and the rows that work on them."""

from backframes.values import OPERATIONS, blank, copied_heap, next_number, reckoned


class World:
    """What all frames of a run share.

    What is done in a trial can be taken back: this is how a call that fails halfway changes nothing.
    """

    def __init__(self, source, heap, log):
        self._source = source
        self._heap = copied_heap(heap)
        self._next = next_number(heap)
        self._log = list(log)
        # What was written in a trial over what, as tuples (fields, field, value); None without a trial.
        self._written = None
        self._next_ahead = 0
        self._entries_ahead = 0

    def begin_trial(self):
        self._written = []
        self._next_ahead = self._next
        self._entries_ahead = len(self._log)

    def end_trial(self):
        self._written = None

    def take_back(self):
        """End a trial, with everything as it was ahead of it."""
        for fields, field, value in reversed(self._written):
            fields[field] = value
        for number in range(self._next_ahead, self._next):
            del self._heap[number]
        del self._log[self._entries_ahead:]
        self._next = self._next_ahead
        self._written = None

    def do_row(self, row, held):
        """Do a row that goes on to the next one, on a dict of variables or registers."""
        word = row[0]
        if word == "number":
            held[row[1]] = row[2]
        elif word == "nil":
            held[row[1]] = None
        elif word == "copy":
            held[row[1]] = held[row[2]]
        elif word in OPERATIONS:
            held[row[1]] = reckoned(word, held[row[2]], held[row[3]])
        elif word == "new":
            held[row[1]] = self._make(row[2])
        elif word == "get":
            held[row[1]] = self._read(held[row[2]], row[3])
        elif word == "put":
            self._write(held[row[1]], row[2], held[row[3]])
        else:
            self._see(held[row[1]])

    def _make(self, title):
        number = self._next
        fields = {field: blank(kind) for field, kind in self._source.fields_of(title)}
        self._heap[number] = (title, fields)
        self._next = number + 1
        return ("object", number)

    def _read(self, value, field):
        fields = {} if value is None else self._heap[value[1]][1]
        return fields[field] if field in fields else blank(self._source.field_kind(field))

    def _write(self, value, field, worth):
        fields = {} if value is None else self._heap[value[1]][1]
        if field not in fields:
            return
        if self._written is not None:
            self._written.append((fields, field, fields[field]))
        fields[field] = worth

    def _see(self, value):
        if value is None:
            self._log.append(("nil",))
        elif isinstance(value, int):
            self._log.append(("number", value))
        else:
            self._log.append(("object", self._heap[value[1]][0]))

    def told_heap(self):
        return copied_heap(self._heap)

    def told_log(self):
        return list(self._log)

    def twin(self):
        """A world that is alike and goes on by itself."""
        return World(self._source, self._heap, self._log)
