"""The interface as the document lists it: names, arguments, and where each one is defined."""

import importlib
import inspect
import unittest

INTERFACE = {
    "source": {"Source": ("classes, functions", ["classes()", "functions()", "__eq__(other)"])},
    "code": {
        "Code": (
            "source, function, blocks",
            ["owner()", "blocks()", "points()", "place(point)", "kinds()", "usable(point)", "__eq__(other)"],
        ),
    },
    "machine": {
        "Machine": (
            "source, name, arguments",
            ["step()", "steps(many)", "rows()", "ended()", "frames()", "log()", "heap()", "state()"],
        ),
        "State": ("source, frames, heap", ["frames()", "heap()", "__eq__(other)"]),
        "going_on": "state",
        "outcome": "source, name, arguments",
        "finished": "machine",
    },
    "wanted": {
        "wanted": "source, name, row",
        "wanted_at_call": "source, name, row",
        "wanting": "source, name, row, variable",
    },
    "frames": {
        "FrameState": (
            "code, point, frames, *, unmade, own, claims",
            ["frames()", "claims()", "registers()", "unmade()", "own()", "__eq__(other)"],
        ),
        "built": "state, registers, heap",
        "Backs": ("code, states", ["state_at(point)", "states()", "__eq__(other)"]),
    },
    "kept": {
        "live": "code, point",
        "serves": "backs, point, registers",
        "least_kept": "backs, point, *, weights=None",
        "farthest_kept": "backs, point, *, weights=None",
        "kept_paths": "backs, point",
        "shows": "backs, point, paths",
        "restated": "backs, point, registers",
        "made_for": "backs",
    },
    "texts": {"source_text": "source", "read_source": "text"},
    "codetexts": {"code_text": "code", "read_code": "source, text"},
    "ways": {"ways": "code, start", "rows_on": "code, start, turns"},
    "carried": {
        "to_come": "backs, point",
        "carries": "backs, point, registers",
        "carried": "backs, point",
        "carried_paths": "backs, point",
        "again": "backs, start, turns",
        "thinned": "backs",
        "total": "backs, visits",
    },
    "heaps": {
        "value_at": "heap, roots, path",
        "objects_met": "heap, roots",
        "path_to": "heap, roots, number",
        "renamed_heap": "heap, roots",
        "matching": "heap, roots, other, others",
        "parting_paths": "heap, roots, other, others",
    },
    "runs": {
        "CodeRun": (
            "backs, arguments, *, choice=None",
            ["step()", "steps(many)", "ended()", "went_back()", "place()", "registers()", "heap()", "log()", "frames()"],
        ),
        "ridden": "backs, arguments, *, choice=None",
        "run_from": "backs, point, registers, heap, *, choice=None",
        "rode": "run",
    },
    "terms": {
        "Terms": (
            "",
            [
                "constant(n)", "nil()", "unknown(name, kind)", "made(op, one, other)", "asked(word, kind, parts)",
                "kind(term)", "parts(term)", "atom(number)",
            ],
        ),
    },
    "entering": {
        "findings": "backs, point",
        "finds": "backs, point, steps",
        "unfound": "backs, point",
        "entering": "backs, point, state",
        "entered_run": "backs, point, state, *, choice=None",
        "entries": "backs, state",
    },
    "facts": {
        "Facts": ("terms", ["assume(term, is_zero)", "known(term)", "zero(term)", "ends(term)", "like(one, other)", "twin()"]),
    },
    "termheaps": {
        "TermHeap": (
            "terms, facts, source, name",
            [
                "new_object(title, fields)", "now(term)", "called(function, values)", "get(term, field)", "same(one, other)",
                "status(term)", "like(one, other)", "content(term)", "put(term, field, value)", "see(term)", "leave(values)",
                "events()", "twin()",
            ],
        ),
    },
    "judging": {"verdict": "backs, start, turns", "judge": "backs"},
    "repair": {
        "comes": "backs, point",
        "least_recipe": "backs, point, frame, variable",
        "mended": "backs",
        "known_range": "backs, point, recipe",
    },
    "papers": {
        "compared": "backs, arguments, *, choice=None",
        "landing": "backs, arguments, *, choice=None",
        "is_paper": "backs, thing",
        "least_paper": "backs, most",
        "point_papers": "backs, most",
    },
    "looking": {
        "told_frames": "run",
        "told_heap": "run",
        "left_out": "backs, point",
        "set_variable": "run, at, variable, value",
        "stops_at": "backs, name, row",
        "first_stop": "backs, arguments, name, row",
        "Watch": (
            "backs, arguments",
            ["do(command)", "here()", "undo()", "commands()", "frames()", "log()", "heap()", "text()"],
        ),
    },
    "unmade": {
        "private_objects": "heap, roots, outside",
        "all_made": "heap, roots, unmade",
        "taken_apart": "heap, roots, outside",
        "must_make": "heap, unmade, values",
        "made_out": "heap, roots, unmade, values",
        "making_groups": "heap, unmade",
    },
    "twins": {"look_alikes": "heap", "told_apart": "heap, one, other", "folded_heap": "heap, roots"},
}


def arguments_of(function):
    return str(inspect.signature(function))[1:-1]


class TestInterface(unittest.TestCase):
    def test_each_name_is_defined_in_its_module_with_its_arguments(self):
        for module_name, names in INTERFACE.items():
            module = importlib.import_module(f"backframes.{module_name}")
            for name, told in names.items():
                thing = getattr(module, name)
                self.assertEqual(thing.__module__, module.__name__, name)
                if isinstance(told, str):
                    self.assertEqual(arguments_of(thing), told, name)

    def test_each_class_has_its_methods_itself(self):
        for module_name, names in INTERFACE.items():
            module = importlib.import_module(f"backframes.{module_name}")
            for name, told in names.items():
                if isinstance(told, str):
                    continue
                thing = getattr(module, name)
                self.assertEqual(arguments_of(thing), told[0], name)
                for method in told[1]:
                    method_name, rest = method[:-1].split("(")
                    self.assertIn(method_name, vars(thing))
                    expected = ", ".join(["self"] + ([rest] if rest else []))
                    self.assertEqual(arguments_of(vars(thing)[method_name]), expected, method)


if __name__ == "__main__":
    unittest.main()
