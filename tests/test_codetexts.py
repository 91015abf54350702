import random
import unittest

from backframes.code import Code
from backframes.codetexts import code_text, read_code
from backframes.errors import InvalidCode, InvalidSource, InvalidText
from backframes.source import Source
from tests.samples import all_code, all_source, function_source, numbers, odd_things
from tests.test_texts import changed_texts, text_of
from tests.wild import wild_backs

ALL_LINES = [
    "code all",
    "block a:number b:object",
    "  number n -7",
    "  add s a n",
    "  sub d a s",
    "  times t a d",
    "  less l a t",
    "  nil z",
    "  new c cell",
    "  same e a l",
    "  same u b z",
    "  go 1 a b",
    "block i:number x:object",
    "  guard i 7",
    "  get g x item",
    "  get h x next",
    "  put x item g",
    "  put c next h",
    "  if g 1 g h / 2 i",
    "block j:number",
    "  call k all j c",
    "  call o make",
    "  see k",
    "  see o",
    "  look 2",
    "  return k",
]
HEAD = ["code f", "block r:number"]
SMALL = [*HEAD, "  return r"]


def small_source():
    return function_source([("return", "a")], numbers("a"))


class CodeTextCase(unittest.TestCase):
    def wrong(self, text, line):
        with self.assertRaises(InvalidText) as caught:
            read_code(small_source(), text)
        self.assertEqual(caught.exception.line, line, text)

    def wrong_line(self, line, ahead=HEAD, behind=("  return r",)):
        self.wrong(text_of([*ahead, line, *behind]), len(ahead))
        self.wrong(text_of([*ahead, line]), len(ahead))

    def no_code(self, text, part, at):
        with self.assertRaises(InvalidCode) as caught:
            read_code(small_source(), text)
        self.assertEqual((caught.exception.part, caught.exception.at), (part, at), text)


class TestCodeText(unittest.TestCase):
    def test_each_form(self):
        self.assertEqual(code_text(all_code()), text_of(ALL_LINES))
        self.assertEqual(code_text(code=all_code()), text_of(ALL_LINES))

    def test_the_forms_of_the_document(self):
        blocks = [
            (numbers("r", "s"), [("add", "x", "s", "r"), ("call", "y", "f", ["s", "r"]), ("look", 0)], ("if", "s", (1, ["r"]), (2, []))),
            (numbers("u"), [], ("go", 3, ["r", "s"])), ([], [], ("return", "s")), (numbers("v", "w"), [], ("go", 2, [])),
        ]
        source = function_source([("return", "a")], numbers("a", "b"))
        lines = ["code f", "block r:number s:number", "  add x s r", "  call y f s r", "  look 0", "  if s 1 r / 2", "block u:number",
                 "  go 3 r s", "block", "  return s", "block v:number w:number", "  go 2"]
        self.assertEqual(code_text(Code(source, "f", blocks)), text_of(lines))
        self.assertTrue(read_code(source, text_of(lines)) == Code(source, "f", blocks))

    def test_no_code(self):
        for thing in odd_things():
            if not isinstance(thing, Code):
                with self.assertRaises(InvalidCode) as caught:
                    code_text(thing)
                self.assertEqual((caught.exception.part, caught.exception.at), ("code", None))

    def test_and_back_again(self):
        chance = random.Random(29)
        for _ in range(300):
            code = wild_backs(chance).code
            self.assertTrue(read_code(code.source, code_text(code)) == code)
        self.assertTrue(read_code(all_source(), code_text(all_code())) == all_code())


class TestReadCode(CodeTextCase):
    def test_each_form(self):
        code = read_code(text=text_of(ALL_LINES), source=all_source())
        self.assertTrue(code == all_code())
        self.assertEqual(code_text(code), text_of(ALL_LINES))

    def test_no_source(self):
        for thing in odd_things():
            if not isinstance(thing, Source):
                for text in (thing, text_of(SMALL), "x"):
                    with self.assertRaises(InvalidSource) as caught:
                        read_code(thing, text)
                    self.assertEqual((caught.exception.part, caught.exception.at), ("source", None))

    def test_no_string(self):
        for thing in odd_things():
            if not isinstance(thing, str):
                self.wrong(thing, -1)

    def test_texts_that_end_too_early(self):
        self.wrong("", 0)
        self.no_code(text_of(["code f"]), "blocks", -1)
        self.wrong(text_of(HEAD), 2)
        self.wrong(text_of([*HEAD, "  see r"]), 3)
        self.wrong(text_of([*SMALL, "block"]), 4)
        self.wrong("code f", 0)
        self.wrong("code f\nblock", 1)
        self.wrong(text_of(SMALL)[:-1], 2)
        self.wrong(text_of(SMALL) + " ", 3)
        self.wrong(text_of(HEAD) + "  return r", 2)

    def test_the_first_line(self):
        for line in ("Code f", "code", "code f f", "code F", "code 9", "code abcdefghi", " code f", "  code f", "code  f", "code f ", "", "function f",
                     "block", "block r:number", "  return r", "code f:number", "code /"):
            self.wrong_line(line, [], HEAD[1:])

    def test_where_lines_may_stand(self):
        self.wrong_line("code f", HEAD[:1])
        self.wrong_line("code f")
        self.wrong_line("code f", SMALL)
        self.wrong_line("  return r", HEAD[:1])
        self.wrong_line("  see r", HEAD[:1])
        self.wrong_line("block r:number", HEAD)
        self.wrong_line("block r:number", [*HEAD, "  see r"])
        self.wrong_line("  see r", SMALL)
        self.wrong_line("  return r", SMALL)
        self.wrong_line("  look 1", [*HEAD, "  go 1"])
        self.wrong_line("  look 1", [*HEAD, "  if r 1 / 2"])

    def test_blocks(self):
        for line in ("block r", "block r:", "block :number", "block r:int", "block R:number", "block r:number:number", "block r:number ", "block  r:number",
                     " block r:number", "  block r:number", "Block r:number", "blocks", "block /", "block abcdefghi:number", "block r number", "block r:number / s:number"):
            self.wrong_line(line, HEAD[:1])
        self.no_code(text_of(["code f", "block", "  return r"]), "blocks", (0,))

    def test_rows(self):
        for row in ("copy r s", "if r 1", "jump 1", "Number r 1", "number r", "number r 1 1", "number 1 r", "add r r", "add r r r r", "nil", "nil r r",
                    "new r", "new r c c", "same r r", "get r r", "get r r f f", "put r f", "put r f r r", "call", "call r", "see", "see r r", "guard r",
                    "guard r r", "guard 1 r", "guard r 1 1", "look", "look r", "look 1 1", "look 01", "look -0", "guard r 00", "number r -0", "look " + "1" * 31,
                    "number R 1", "add r R r", "call r f R", "call r F", "see r:number", "see /", "", "see  r", " see r", "see r "):
            self.wrong_line("  " + row)

    def test_ends(self):
        for end in ("return", "return r r", "return 1", "return R", "go", "go r", "go 1 R", "go 01", "go -0", "go 1 2", "go 1 r / 2", "go " + "1" * 31, "go +1",
                    "if", "if r", "if r 1", "if r 1 2", "if r / 1", "if r 1 /", "if r / 1 / 2", "if r 1 / 2 / 3", "if 1 1 / 2", "if r 1 / 02", "if r -0 / 2",
                    "if R 1 / 2", "if r 1 R / 2", "if r 1 / 2 R", "if r 1 s/ 2", "if r 1 2 / 2", "if r r / 2", "if r 1 / r", "if r  1 / 2", "if / 1 / 2", "Return r"):
            self.wrong_line("  " + end)
        for end in ("return r", "go 1", "if r 1 / 2"):
            for line in (end, " " + end, "   " + end):
                self.wrong_line(line)

    def test_numbers_that_code_finds_wrong(self):
        for end in ("go 0", "go 12", "go -1", "go " + "9" * 30, "if r 0 / 1", "if r 1 / 12", "if r -" + "9" * 30 + " / 1"):
            self.no_code(text_of([*HEAD, "  " + end]), "blocks", (0, 0))
        for row in ("look 100", "look -1", "guard r 100", "number s 1000000001", "number s " + "9" * 30, "look " + "1" * 30):
            self.no_code(text_of([*HEAD, "  see r", "  " + row, "  return r"]), "blocks", (0, 1))
        read_code(small_source(), text_of([*HEAD, "  look 99", "  look 0", "  number s -1000000000", "  return r"]))

    def test_lines_are_told_ahead_of_what_is_wrong_with_code(self):
        wrong = ["code g", "block s:object", "  return t", "block", "  go 0"]
        self.wrong(text_of([*wrong, "x"]), 5)
        self.wrong(text_of([*wrong, "block"]), 6)
        self.wrong(text_of(wrong) + "x", 5)
        self.no_code(text_of(wrong), "function", None)
        self.no_code(text_of(["code f", *wrong[1:]]), "blocks", (0,))
        self.no_code(text_of(["code f", *["block", "  return r"] * 13]), "blocks", -1)

    def test_the_first_line_is_told(self):
        self.wrong(text_of(["code f", "x", "y"]), 1)
        self.wrong(text_of([*HEAD, "  see R", "block"]) + "y", 2)
        self.wrong(text_of([*HEAD, "x"]) + "y", 2)

    def test_a_text_that_is_read_is_the_text_of_its_code(self):
        read = 0
        for changed in changed_texts(text_of(ALL_LINES), random.Random(290)):
            try:
                code = read_code(all_source(), changed)
            except (InvalidText, InvalidCode):
                continue
            read += 1
            self.assertEqual(code_text(code), changed)
        self.assertGreater(read, 50)


if __name__ == "__main__":
    unittest.main()
