"""The texts of programs, points 2 and 10."""

import copy
import unittest

from changewhile.errors import NoText
from changewhile.programs import is_program
from changewhile.programtexts import program_text, read_program
from tests.examples import (BAD_NAMES, KINDS, NUMBER, PROGRAMS, ROWS, TERMS, VALUES, X, alike, marked, number,
                            odd_things, tampered)

WHOLE = """\
kind node x number
kind pair a number, b [truth]
box best [number] = [1, 2]
box count number = 5
part run (x number, y truth) number
  let z (add x 1)
  mark m
  unless y 0
  back z
part sum () truth
  back yes
"""


def turned(things):
    """The same dict, made the other way round."""
    return {key: things[key] for key in reversed(list(things))}


class Texts(unittest.TestCase):
    def test_the_text_of_each(self):
        for program, text in PROGRAMS:
            self.assertEqual(program_text(program), text)

    def test_there_and_back(self):
        for program, text in PROGRAMS:
            told = read_program(text)
            self.assertTrue(alike(told, program), text)
            self.assertEqual(program_text(told), text)
            self.assertIs(is_program(told), True)

    def test_the_empty_text_is_the_program_without_anything(self):
        self.assertTrue(alike(read_program(""), ({}, {}, {})))
        self.assertEqual(program_text(({}, {}, {})), "")

    def test_there_and_back_of_all_kinds(self):
        for kind, text in KINDS:
            for program, told in [(({"n": (("f", kind),)}, {}, {}), "kind n f " + text + "\n"),
                                  (({"n": (("f", kind), ("g", kind))}, {}, {}),
                                   "kind n f " + text + ", g " + text + "\n"),
                                  (({}, {"b": (kind, ())}, {}), "box b " + text + " = []\n"),
                                  (({}, {}, {"p": ((("x", kind), ("a", kind)), kind, (("go", 0),))}),
                                   "part p (x " + text + ", a " + text + ") " + text + "\n  go 0\n")]:
                self.assertEqual(program_text(program), told)
                self.assertTrue(alike(read_program(told), program))

    def test_there_and_back_of_all_plain_values(self):
        for value, text in VALUES:
            program = ({}, {"b": (NUMBER, value)}, {})
            self.assertEqual(program_text(program), "box b number = " + text + "\n")
            self.assertTrue(alike(read_program(program_text(program)), program))

    def test_there_and_back_of_all_terms_and_rows(self):
        for term, text in TERMS:
            program = ({}, {}, {"p": ((), NUMBER, (("tell", term), ("back", term)))})
            self.assertEqual(program_text(program), "part p () number\n  tell " + text + "\n  back " + text + "\n")
            self.assertTrue(alike(read_program(program_text(program)), program))
        for row, text in ROWS:
            if row[0] not in ("go", "unless"):
                program = ({}, {}, {"p": ((), NUMBER, (row, ("go", 1)))})
                self.assertEqual(program_text(program), "part p () number\n  " + text + "\n  go 1\n")
                self.assertTrue(alike(read_program(program_text(program)), program))

    def test_numbers_come_back_as_numbers_and_truths_as_truths(self):
        told = read_program("box a number = 1\nbox b truth = yes\nbox c [truth] = [0, no, 1, yes]\n")
        self.assertTrue(alike(told[1], {"a": (NUMBER, 1), "b": (("truth",), True),
                                        "c": (("list", ("truth",)), (0, False, 1, True))}))

    def test_the_same_whichever_way_the_dicts_were_made(self):
        for (kinds, boxes, parts), text in PROGRAMS:
            self.assertEqual(program_text((turned(kinds), turned(boxes), turned(parts))), text)
        letters = "tsrqponmlkjihgfedcba"
        kinds = {letter * 2: () for letter in letters}
        boxes = {letter * 3: (NUMBER, 0) for letter in letters}
        parts = {letter * 4: marked(letter) for letter in letters}
        text = program_text((kinds, boxes, parts))
        self.assertEqual(text, program_text((turned(kinds), turned(boxes), turned(parts))))
        heads = [line.split(" ")[1] for line in text.splitlines() if not line.startswith(" ")]
        self.assertEqual(heads, [letter * many for many in (2, 3, 4) for letter in sorted(letters)])
        self.assertTrue(alike(read_program(text), (kinds, boxes, parts)))

    def test_sixty_rows_and_twenty_parts(self):
        rows = (("let", "x", ("add", X, number(1))),) * 59 + (("go", 59),)
        program = ({}, {}, {"p" + letter: ((), NUMBER, rows) for letter in "abcdefghijklmnopqrst"})
        self.assertTrue(alike(read_program(program_text(program)), program))


class Refusals(unittest.TestCase):
    def refused(self, text):
        with self.assertRaises(NoText, msg=repr(text)[:80]):
            read_program(text)

    def test_the_whole_is_read(self):
        self.assertEqual(program_text(read_program(WHOLE)), WHOLE)

    def test_lines_left_out_twice_or_in_another_order(self):
        lines = WHOLE.splitlines(keepends=True)
        for k, line in enumerate(lines):
            rest = lines[:k] + lines[k + 1:]
            if line in ("kind node x number\n", "kind pair a number, b [truth]\n", "box best [number] = [1, 2]\n",
                        "box count number = 5\n", "  let z (add x 1)\n", "  mark m\n", "  unless y 0\n"):
                self.assertEqual(program_text(read_program("".join(rest))), "".join(rest))
            elif line == "part sum () truth\n":
                self.assertEqual(len(read_program("".join(rest))[2]["run"][2]), 5)
            elif line == "  back z\n" or line == "  back yes\n" or line.startswith("part"):
                self.refused("".join(rest))
            twice = "".join(lines[:k] + [line] + lines[k:])
            if line.startswith("  ") and line != "  mark m\n":
                self.assertEqual(program_text(read_program(twice)), twice)
            else:
                self.refused(twice)

    def test_heads_in_another_order(self):
        entries = ["kind node x number\n", "kind pair a number\n", "box best number = 1\n", "box count number = 5\n",
                   "part run () number\n  back 1\n", "part sum () truth\n  back yes\n"]
        self.assertEqual(program_text(read_program("".join(entries))), "".join(entries))
        for k in range(len(entries)):
            for j in range(k):
                other = list(entries)
                other[k], other[j] = other[j], other[k]
                self.refused("".join(other))
        for k in range(len(entries)):
            for j in range(len(entries)):
                if j != k:
                    other = entries[:k] + entries[k + 1:]
                    self.refused("".join(other[:j] + [entries[k]] + other[j:]))
                self.refused("".join(entries[:j] + [entries[k]] + entries[j:]))

    def test_without_the_last_line_feed(self):
        for _, text in PROGRAMS:
            if text:
                self.refused(text[:-1])
                self.refused(text + "\n")
                self.refused("\n" + text)
                self.refused(text + " ")
                self.refused(text + "x")
                self.refused(text + text)

    def test_one_blank_or_three_ahead_of_a_row(self):
        for ahead in ("", " ", "   ", "    ", "\t", " \t", "  \t", "\t\t"):
            self.refused("part p () number\n" + ahead + "back 0\n")
            self.refused("part p () number\n  tell 0\n" + ahead + "back 0\n")
            self.refused("part p () number\n" + ahead + "tell 0\n  back 0\n")

    def test_rows_without_a_part(self):
        self.refused("  back 0\n")
        self.refused("  back 0\npart p () number\n  back 0\n")
        self.refused("kind n\n  back 0\n")
        self.refused("kind n\n  back 0\npart p () number\n  back 0\n")
        self.refused("box b number = 1\n  back 0\n")
        self.refused("part p () number\n  back 0\nkind n\n  back 0\n")

    def test_lines_that_are_refused(self):
        for line in ["", " ", "  ", "kind", "kind ", "kind n ", "kind  n", " kind n", "kind n,", "kind n a",
                     "kind n a ", "kind n a number,", "kind n a number, ", "kind n a number,b truth",
                     "kind n a number,  b truth", "kind n a number , b truth", "kind n a number b truth",
                     "kind n  a number", "kind n a  number", "kind n b number, a number", "kind n a number, a number",
                     "kind n a number, a truth", "kind n aa number, a number", "kind n a number, c number, b number",
                     "kind n a yes", "kind n a 1", "kind n a [number", "kind n a number]", "kind n a [number]]",
                     "kind n (a number)", "kind N", "kind yes", "kind number", "kind number a number", "kind 1",
                     "kind n A number", "kind n yes number", "kind n a number = 1", "kind n ()", "kind n number",
                     "kind n a Number", "kind n a number, b", "kind n a number, b truth c truth", "kind (n)",
                     "kinds n", "Kind n", "kindn", "kind n m", "record n", "kind\tn", "kind n\ta number", "kind n\r",
                     "kind abcdefghi", "kind n abcdefghi number", "kind #n", "kind n, m", "kind n = 1",
                     "box", "box ", "box b", "box b ", "box b number", "box b number ", "box b number =",
                     "box b number = ", "box b number =1", "box b number= 1", "box b number  = 1", "box b number =  1",
                     "box b  number = 1", "box  b number = 1", " box b number = 1", "box b number = 1 ",
                     "box b = 1", "box b number 1", "box b number = 01", "box b number = -1", "box b number = +1",
                     "box b number = 1000000000000", "box b number = r0", "box b pair = r0", "box b [pair] = [r0]",
                     "box b number = [1", "box b number = 1]", "box b number = [1,2]", "box b number = [1, 2, ]",
                     "box b number = 1 = 1", "box b number = 1, 2", "box b number = 1\r", "box b number = x",
                     "box b number = (add 1 2)", "box b number = #b", "box b number = True", "box b [number = 1",
                     "box b yes = yes", "box b 1 = 1", "box B number = 1", "box yes number = 1", "box number = 1",
                     "box number number = 1", "box #b number = 1", "box b number := 1", "box b number == 1",
                     "box b (number) = 1", "box abcdefghi number = 1", "boxes b number = 1", "Box b number = 1",
                     "box b number = " + "[" + ", ".join(["1"] * 61) + "]", "box b, c number = 1",
                     "out n", "lead n", "lead b it", "x", "1", "n", "part", "(kind n)", "let x 1", "back 0", "mark m",
                     "# kind n", "kind n # a", "-", "kind n\x0bkind m", "kind n\x0ckind m", "kind n\x85kind m",
                     "kind n\u2028kind m", "kind n;"]:
            self.refused(line + "\n")
            self.refused("kind aa\n" + line + "\n")
            self.refused(line + "\nkind z\n")
            self.refused(line + "\npart z () number\n  back 0\n")

    def test_heads_of_parts_that_are_refused(self):
        for head in ["part", "part ", "part p", "part p ", "part p ()", "part p () ", "part p number",
                     "part p() number",
                     "part p ()number", "part  p () number", "part p  () number", "part p ()  number",
                     " part p () number", "part p () number ", "part p ( ) number", "part p (x) number",
                     "part p (x ) number", "part p (x number, ) number", "part p (x number,) number",
                     "part p (x number,y number) number", "part p (x number , y number) number",
                     "part p (x number,  y number) number", "part p (x number y number) number",
                     "part p ( x number) number", "part p (x number ) number", "part p (x  number) number",
                     "part p (x number, x number) number", "part p (x number, x truth) number",
                     "part p (x number, y number, x number) number", "part p (X number) number",
                     "part p (yes number) number", "part p (number number) number", "part p (number) number",
                     "part p (x yes) number", "part p (x 1) number", "part p (x [number) number",
                     "part p (x number]) number", "part p (x number number", "part p x number) number",
                     "part p (x number)) number", "part p ((x number) number", "part p (x (number)) number",
                     "part p () yes", "part p () 1", "part p () Number", "part p () [number", "part p () number]",
                     "part p () (number)", "part p () number number", "part p () number, truth", "part p () ()",
                     "part P () number", "part yes () number", "part number () number", "part 1 () number",
                     "part #p () number", "part p () = number", "part p () number:", "part abcdefghi () number",
                     "parts p () number", "Part p () number", "part () number", "part p [] number",
                     "part p {} number", "part p () number = 1", "part p q () number", "part p () number\r",
                     "part p (#x number) number", "part p (x number) (y number) number"]:
            self.refused(head + "\n  back 0\n")
            self.refused("kind n\n" + head + "\n  back 0\n")
            self.refused(head + "\n  back 0\npart z () number\n  back 0\n")

    def test_rows_that_are_refused(self):
        for row in ["", "let", "let x", "let x 1 ", "let  x 1", "let x 01", "let x 1000000000000", "let x (add x)",
                    "let X 1", "let yes 1", "put b", "set x f", "new x n b 1, a 2", "new x n a 1, a 2", "new x n a",
                    "call x", "tell", "mark", "mark M", "go", "go 01", "go x", "unless x", "unless x 01", "back",
                    "back 0 ", "back (not x", "back 0 0", "when x 1", "x", "back number", "back 0\r", "kind n",
                    "box b number = 1", "part q () number", "(back 0)", "back 0, 1"]:
            self.refused("part p () number\n  " + row + "\n  back 0\n")
            self.refused("part p () number\n  tell 0\n  " + row + "\n  back 0\n")
            self.refused("part p () number\n  tell 0\n  " + row + "\n")

    def test_texts_of_what_would_be_no_program(self):
        for text in ["kind n\nbox n number = 1\n", "kind n\npart n () number\n  back 0\n",
                     "box n number = 1\npart n () number\n  back 0\n",
                     "part p () number\n", "part p () number\npart q () number\n  back 0\n",
                     "part p () number\n  tell 0\n", "part p () number\n  mark m\n",
                     "part p () number\n  unless yes 0\n",
                     "part p () number\n  let x 1\n", "part p () number\n  call x p\n",
                     "part p () number\n  back 0\n  tell 0\n",
                     "part p () number\n  go 1\n", "part p () number\n  go 2\n  back 0\n",
                     "part p () number\n  unless yes 2\n  back 0\n",
                     "part p () number\n  go " + "9" * 120 + "\n",
                     "part p () number\n  mark m\n  mark m\n  back 0\n",
                     "part p () number\n  mark m\n  back 0\npart q () number\n  mark m\n  back 0\n",
                     "part p () number\n  mark m\n  mark n\n  mark m\n  back 0\n"]:
            self.refused(text)

    def test_doubles(self):
        for text in ["kind n\n", "kind n a number\n", "box b number = 1\n", "part p () number\n  back 0\n",
                     "part p () number\n  mark m\n  back 0\n"]:
            read_program(text)
            self.refused(text + text)
        self.refused("kind n\nkind n a number\n")
        self.refused("kind n a number\nkind n\n")
        self.refused("box b number = 1\nbox b number = 2\n")
        self.refused("part p () number\n  back 0\npart p () number\n  back 1\n")

    def test_sign_by_sign(self):
        for other in tampered(WHOLE, " \n(),=[1xN"):
            try:
                told = read_program(other)
            except NoText:
                continue
            self.assertIs(is_program(told), True)
            self.assertEqual(program_text(told), other)

    def test_bad_names_are_refused(self):
        for word in BAD_NAMES:
            for text in ("kind {}\n", "kind n {} number\n", "box {} number = 1\n", "part {} () number\n  back 0\n",
                         "part p ({} number) number\n  back 0\n", "part p () number\n  mark {}\n  back 0\n"):
                if text.format(word) != "kind n  number\n":
                    self.refused(text.format(word))
        self.refused("kind n  number\n")

    def test_things_that_are_no_texts(self):
        for thing in odd_things() + [0, 1, True, False, (), ({}, {}, {}), [""], ["kind n\n"], ("kind n\n",)]:
            self.refused(thing)

    def test_thousands_of_brackets(self):
        for many in (2000, 3000):
            squares = ["[" * many, "]" * many, "[" * many + "]" * many, "[" * many + "number",
                       "[" * many + "number" + "]" * many]
            rounds = ["(" * many, ")" * many, "(" * many + ")" * many, "(not " * many,
                      "(not " * many + "x" + ")" * many]
            for text in squares + rounds:
                self.refused(text)
                self.refused(text + "\n")
                self.refused("kind n a " + text + "\n")
                self.refused("box b " + text + " = 1\n")
                self.refused("part p (x " + text + ") number\n  back 0\n")
                self.refused("part p () " + text + "\n  back 0\n")
                self.refused("part p () number\n  back " + text + "\n")
                self.refused("part p () number\n  back (empty " + text + ")\n")
            for value in ["[" * many, "[" * many + "]" * many, "]" * many, "[" * many + "1" + "]" * many]:
                self.refused("box b number = " + value + "\n")

    def test_behind_a_refusal_a_right_text_is_read(self):
        for bad in ["\n", "kind", None, "kind n\nkind n\n", "part p () number\n  back " + "(" * 5000 + "\n",
                    "part p () number\n  mark m\n  mark m\n  back 0\n"]:
            for program, text in PROGRAMS:
                self.refused(bad)
                self.assertTrue(alike(read_program(text), program))


class Asked(unittest.TestCase):
    def test_asked_again_all_is_told_alike_and_nothing_changes(self):
        for program, text in PROGRAMS:
            before = copy.deepcopy(program)
            self.assertEqual(program_text(program), program_text(program))
            self.assertTrue(alike(read_program(text), read_program(text)))
            self.assertTrue(alike(program, before))
            self.assertEqual([list(things) for things in program], [list(things) for things in before])

    def test_dicts_that_are_told_are_the_askers_own(self):
        for program, text in PROGRAMS:
            first = read_program(text)
            second = read_program(text)
            for one, other in zip(first, second):
                self.assertIs(type(one), dict)
                self.assertIsNot(one, other)
                one.clear()
                one["other"] = ()
            self.assertTrue(alike(second, program))
            self.assertTrue(alike(read_program(text), program))


if __name__ == "__main__":
    unittest.main()
