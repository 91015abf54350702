import random
import unittest

from backframes.errors import InvalidSource, InvalidText
from backframes.source import Source
from backframes.texts import read_source, source_text
from tests.samples import ALL, BOX, CELL, EMPTY, MAKE, all_source, numbers, odd_things
from tests.wild import wild_source

GREATEST = 10 ** 9
ALL_LINES = [
    "class cell item:number next:object",
    "class box item:number",
    "class empty",
    "function all number n:number o:object / m:number p:object",
    "  number m 5",
    "  add m n n",
    "  sub m n m",
    "  times m n m",
    "  less m n m",
    "  nil p",
    "  new p cell",
    "  copy m n",
    "  copy p o",
    "  same m n m",
    "  same m o p",
    "  get m o item",
    "  get p o next",
    "  put o item n",
    "  put o next p",
    "  call m all n o",
    "  call p make",
    "  see m",
    "  see p",
    "  if m 0",
    "  jump 21",
    "  return m",
    "function make object / c:object",
    "  new c cell",
    "  return c",
]
F = ["function f number a:number /", "  return a"]


def text_of(lines):
    return "".join([line + "\n" for line in lines])


def changed_texts(text, chance):
    """Texts that differ from another one at one place."""
    for _ in range(4000):
        at = chance.randrange(len(text))
        yield text[:at] + chance.choice(["", *"\n  :/-019az\r"]) + text[at + chance.randint(0, 2):]


class TextCase(unittest.TestCase):
    def wrong(self, text, line):
        with self.assertRaises(InvalidText) as caught:
            read_source(text)
        self.assertEqual(caught.exception.line, line, text)

    def wrong_line(self, line, lines=(), behind=F):
        """A line without form behind others, and what stands behind it does not matter."""
        self.wrong(text_of([*lines, line, *behind]), len(lines))
        self.wrong(text_of([*lines, line]), len(lines))

    def wrong_row(self, row):
        self.wrong_line(row, F[:1], F[1:])

    def no_source(self, text, part, at):
        with self.assertRaises(InvalidSource) as caught:
            read_source(text)
        self.assertEqual((caught.exception.part, caught.exception.at), (part, at), text)


class TestSourceText(unittest.TestCase):
    def test_the_example_of_the_document(self):
        rows = [("new", "b", "cell"), ("put", "b", "item", "a"), ("get", "a", "b", "item"), ("return", "a")]
        cell = ("cell", [("item", "number"), ("next", "object")])
        s = Source([cell], [("f", [("a", "number")], [("b", "object")], "number", rows)])
        first = ["class cell item:number next:object", "function f number a:number / b:object", "  new b cell", "  put b item a"]
        self.assertEqual(source_text(s).split("\n")[:4], first)
        self.assertTrue(read_source(source_text(s)) == s)

    def test_each_form(self):
        self.assertEqual(source_text(all_source()), text_of(ALL_LINES))
        self.assertEqual(source_text(source=all_source()), text_of(ALL_LINES))

    def test_lists_without_things(self):
        rows = [("return", "r")]
        for params, others, head in ((numbers("r"), [], "function f number r:number /"),
                                     ([], numbers("r"), "function f number / r:number")):
            source = Source([], [("f", params, others, "number", rows)])
            self.assertEqual(source_text(source), text_of([head, "  return r"]))
            self.assertTrue(read_source(source_text(source)) == source)

    def test_the_order_of_classes_and_functions(self):
        source = Source([BOX, EMPTY, CELL], [MAKE, ALL])
        lines = [ALL_LINES[1], ALL_LINES[2], ALL_LINES[0], *ALL_LINES[26:], *ALL_LINES[3:26]]
        self.assertEqual(source_text(source), text_of(lines))
        self.assertTrue(read_source(text_of(lines)) == source)
        self.assertFalse(read_source(text_of(lines)) == all_source())

    def test_great_numbers(self):
        rows = [("number", "r", GREATEST), ("number", "r", -GREATEST), ("number", "r", 0), ("return", "r")]
        source = Source([], [("f", [], numbers("r"), "number", rows)])
        lines = source_text(source).split("\n")
        self.assertEqual(lines[1:4], ["  number r 1000000000", "  number r -1000000000", "  number r 0"])
        self.assertTrue(read_source(source_text(source)) == source)

    def test_the_greatest_source(self):
        fields = [("abcdefg1", "number"), ("abcdefg2", "object"), ("abcdefg3", "number"), ("abcdefg4", "object")]
        classes = [(f"class{k}", fields) for k in range(6)]
        params = numbers("a", "b", "c", "d")
        others = numbers(*"efghijkl")
        rows = [("call", "a", "function", ["a", "b", "c", "d"])] * 39 + [("return", "l")]
        functions = [(name, params, others, "number", rows) for name in ("function", "class", "add", "x", "number", "see")]
        source = Source(classes, functions)
        text = source_text(source)
        self.assertEqual((text.count("\n"), text.endswith("\n")), (6 + 6 * 41, True))
        self.assertTrue(read_source(text) == source)

    def test_no_source(self):
        for thing in odd_things():
            if not isinstance(thing, Source):
                with self.assertRaises(InvalidSource) as caught:
                    source_text(thing)
                self.assertEqual((caught.exception.part, caught.exception.at), ("source", None))


class TestReadSource(TextCase):
    def test_each_form(self):
        self.assertTrue(read_source(text_of(ALL_LINES)) == all_source())
        self.assertTrue(read_source(text=text_of(ALL_LINES)) == all_source())
        self.assertTrue(read_source(source_text(wild_source())) == wild_source())

    def test_no_string(self):
        for thing in odd_things():
            if not isinstance(thing, str):
                self.wrong(thing, -1)

    def test_an_empty_text(self):
        self.no_source("", "functions", -1)

    def test_what_stands_behind_the_last_line_feed(self):
        text = text_of(ALL_LINES)
        self.wrong(text[:-1], len(ALL_LINES) - 1)
        for rest in ("x", " ", "  see m", "class a", "\r", "\x00"):
            self.wrong(text + rest, len(ALL_LINES))
        self.wrong("class a", 0)
        self.wrong("x", 0)
        self.wrong("\nclass a", 0)
        self.wrong("\n", 0)
        self.wrong(text + "\n", len(ALL_LINES))

    def test_line_feeds_alone_end_lines(self):
        for mark in ("\r\n", "\r", "\x0b", "\x0c", "\x1c", "\x85", "\u2028"):
            self.wrong(mark.join(F) + "\n", 0)

    def test_blanks(self):
        for line in ("class  a", " class a", "class a ", "class a  b:number", "class\ta", "", " ", "  "):
            self.wrong_line(line)
        for line in ("  class a", "   class a"):
            self.wrong_line(line)
        for row in ("  see  a", "  see a ", "   see a", " see a", "see a", "  ", "", "\tsee a", "  see\ta", "    see a", "  see"):
            self.wrong_row(row)
        for head in ("function f number a:number / ", "function f number  / a:number", "function f number a:number  /",
                     " function f number a:number /", "  function f number a:number /"):
            self.wrong_line(head)

    def test_names(self):
        for name in ("Ab", "9a", "a_b", "abcdefghi", "a-b", "\u00e4", "a\u0662", "", "/", ":", "a:number"):
            self.wrong_line(f"class {name}")
            self.wrong_line(f"class c {name}:number")
            self.wrong_line(f"function {name} number a:number /")
            self.wrong_line(f"function f number {name}:number /")
            self.wrong_line(f"function f number / {name}:number")
            for row in ("number {} 1", "add {} a a", "add a {} a", "add a a {}", "nil {}", "new {} c", "new a {}", "copy a {}", "get a a {}",
                        "put a {} a", "call {} f", "call a {} a", "call a f {}", "call a f a {}", "see {}", "if {} 0", "return {}"):
                self.wrong_row("  " + row.format(name))
        text = text_of(["class abcdefg8 number8x:object", "function class1 number add:number / a1234567:number", "  return add"])
        self.assertEqual(source_text(read_source(text)), text)

    def test_kinds(self):
        for kind in ("Number", "numbers", "", "nil", "object:", ":object", "int"):
            self.wrong_line(f"class c f:{kind}")
            self.wrong_line(f"function f {kind} a:number /")
            self.wrong_line(f"function f number a:{kind} /")
            self.wrong_line(f"function f number / a:{kind}")
        for line in ("class c f", "class c f number", "class c :number", "class c f::number", "class c number:f"):
            self.wrong_line(line)

    def test_words(self):
        for line in ("class", "Class a", "classes a", "function", "function f", "function f number", "function f number a:number",
                     "function f number a:number / /", "function f / a:number", "function f number / a:number / b:number",
                     "function / number a:number", "function f number/", "func f number /", "block", "code f", "/", "f number /"):
            self.wrong_line(line)
        self.no_source(text_of(["function f number /"]), "functions", (0,))

    def test_rows(self):
        for row in ("guard a 1", "look 1", "go 1", "Number a 1", "number a", "number a 1 1", "number 1 a", "number a b", "add a a", "add a a a a",
                    "nil", "nil a a", "new a", "new a c c", "copy a", "copy a a a", "same a a", "get a a", "get a a f f", "put a f", "put a f a a",
                    "call", "call a", "see", "see a a", "if a", "if a 1 2", "if 1", "jump", "jump a", "jump 1 1", "return", "return a a", "return 1"):
            self.wrong_row("  " + row)

    def test_integers(self):
        for number in ("-0", "1x", "x", "00", "01", "-01", "+1", "1.0", "1e3", "", "-", "--1", "1-", "0x1", "1_0", "\u0661", "\u00b2", "9" * 31, "-" + "9" * 31,
                       "0" * 30, "a", "1a", " 1", "9" * 5000):
            for row in ("  number a {}", "  if a {}", "  jump {}"):
                self.wrong_row(row.format(number))
        for number in ("9" * 30, "-" + "9" * 30, "1000000001", "-1000000001"):
            for row in ("  number a {}", "  if a {}", "  jump {}"):
                self.no_source(text_of([F[0], row.format(number), F[1]]), "functions", (0, 0))
        for number in ("0", "-1", "1000000000", "-1000000000"):
            source = read_source(text_of([F[0], f"  number a {number}", F[1]]))
            self.assertEqual(source.functions()[0][4][0], ("number", "a", int(number)))

    def test_where_lines_may_stand(self):
        self.wrong_line("  return a", behind=[])
        self.wrong_line("  return a", ["class c"])
        self.wrong_line("class c", F)
        self.wrong_line("class c", F[:1])
        self.wrong_line("class c", [*F, *F])
        self.no_source(text_of(["class c", "class c", *F]), "classes", 1)

    def test_the_first_line_is_told(self):
        self.wrong(text_of(["class c", "x", "y", "class c"]), 1)
        self.wrong(text_of([*F, "class c", "x"]), 2)
        self.wrong(text_of(["  return a", "x"]) + "y", 0)
        self.wrong(text_of([*F, "x"]) + "y", 2)

    def test_lines_are_told_ahead_of_what_is_wrong_with_the_source(self):
        wrong = ["class c a:number a:number", "class c", *F, *F, "function g number /"]
        self.wrong(text_of([*wrong, "x"]), 7)
        self.wrong(text_of(wrong) + "x", 7)
        self.no_source(text_of(wrong), "classes", 0)
        self.no_source(text_of(wrong[1:]), "functions", (1,))

    def test_the_errors_of_source(self):
        self.no_source(text_of([f"class c{k}" for k in range(7)] + F), "classes", -1)
        self.no_source(text_of(["class c a:number b:number d:number e:number f:number", *F]), "classes", 0)
        self.no_source(text_of(F * 7), "functions", -1)
        self.no_source(text_of([F[0], "  see b", *F[1:]]), "functions", (0, 0))
        self.no_source(text_of([F[0], "  see a"]), "functions", (0, 0))
        self.no_source(text_of([F[0], *["  see a"] * 40, F[1]]), "functions", (0,))
        self.no_source(text_of([F[0], "  call a f a a", F[1]]), "functions", (0, 0))
        self.no_source(text_of([F[0], "  jump -1", F[1]]), "functions", (0, 0))

    def test_a_text_that_is_read_is_the_text_of_its_source(self):
        read = 0
        for changed in changed_texts(text_of(ALL_LINES), random.Random(11)):
            try:
                source = read_source(changed)
            except (InvalidText, InvalidSource):
                continue
            read += 1
            self.assertEqual(source_text(source), changed)
        self.assertGreater(read, 100)


if __name__ == "__main__":
    unittest.main()
