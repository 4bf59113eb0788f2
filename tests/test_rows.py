"""Rows, points 2, 8 and 12 (the rows that are next)."""

import copy
import itertools
import re
import unittest

from changewhile.errors import NoText
from changewhile.rows import is_row, next_rows, read_row, row_text
from tests.examples import (BAD_NAMES, BAD_ROWS, BAD_TERMS, GOOD_NAMES, ROWS, TERMS, X, Y, YES, alike, deep, number,
                            odd_things, tampered)
from tests.test_terms import LEAF, NAME, crossed_terms

COUNT = r"(?:0|[1-9][0-9]*)"
ROW = re.compile(
    r"let N L|put N L|set L N L|new N N(?: (N L(?:, N L)*))?|call N N(?: L)*|tell L|mark N|go C|unless L C|back L"
    .replace("N", NAME).replace("L", LEAF).replace("C", COUNT))


def is_row_text(text):
    """The same by another way than the program's."""
    match = ROW.fullmatch(crossed_terms(text))
    if not match:
        return False
    fields = [pair.split(" ")[0] for pair in match[1].split(", ")] if match[1] else []
    return fields == sorted(set(fields))


class Rows(unittest.TestCase):
    def test_rows(self):
        for row, _ in ROWS:
            self.assertIs(is_row(row), True, row)

    def test_all_ten_words(self):
        self.assertEqual(len({row[0] for row, _ in ROWS}), 10)

    def test_all_terms_in_each_place(self):
        good = [(term, True) for term, _ in TERMS]
        bad = [(thing, False) for thing in BAD_TERMS + odd_things()]
        for term, told in good + bad:
            for row in [("let", "x", term), ("put", "b", term), ("set", term, "f", X), ("set", X, "f", term),
                        ("new", "x", "n", (("a", term),)), ("new", "x", "n", (("a", X), ("b", term))),
                        ("call", "x", "p", (term,)), ("call", "x", "p", (X, term)), ("tell", term),
                        ("unless", term, 3), ("back", term)]:
                self.assertIs(is_row(row), told, repr(row))

    def test_all_names_in_each_place(self):
        good = [(word, True) for word in GOOD_NAMES]
        bad = [(thing, False) for thing in BAD_NAMES + odd_things()]
        for word, told in good + bad:
            for row in [("let", word, X), ("put", word, X), ("set", X, word, X), ("new", word, "n", ()),
                        ("new", "x", word, ()), ("new", "x", "n", ((word, X),)), ("call", word, "p", ()),
                        ("call", "x", word, (X,)), ("mark", word)]:
                self.assertIs(is_row(row), told, repr(row))

    def test_numbers_of_rows(self):
        for n in (0, 1, 59, 60, 10 ** 12, 10 ** 120 - 1):
            self.assertIs(is_row(("go", n)), True)
            self.assertIs(is_row(("unless", X, n)), True)
        for n in (-1, -10 ** 12, True, False, 0.0, "0", None):
            self.assertIs(is_row(("go", n)), False)
            self.assertIs(is_row(("unless", X, n)), False)

    def test_fields_sorted_and_unlike(self):
        names = ["a", "aa", "b", "z"]
        for many in range(4):
            for chosen in itertools.product(names, repeat=many):
                row = ("new", "x", "n", tuple((field, X) for field in chosen))
                self.assertIs(is_row(row), list(chosen) == sorted(set(chosen)), chosen)

    def test_things_that_are_none(self):
        for thing in BAD_ROWS + odd_things():
            self.assertIs(is_row(thing), False, repr(thing))


class Next(unittest.TestCase):
    def setUp(self):
        self.rows = (
            ("let", "x", X),
            ("put", "b", X),
            ("set", X, "f", X),
            ("new", "x", "n", ()),
            ("call", "x", "p", ()),
            ("tell", X),
            ("mark", "m"),
            ("unless", X, 2),
            ("unless", X, 9),
            ("unless", X, 9),
            ("unless", X, 11),
            ("unless", X, 11),
            ("go", 0),
            ("go", 13),
            ("go", 15),
            ("back", X),
            ("go", 3),
        )

    def test_of_each(self):
        told = [next_rows(self.rows, r) for r in range(len(self.rows))]
        self.assertEqual(told, [[1], [2], [3], [4], [5], [6], [7], [2, 8], [9], [9, 10], [11], [11, 12], [0], [13],
                                [15], [], [3]])

    def test_an_unless_to_the_row_behind_it_tells_it_once(self):
        rows = (("unless", X, 1), ("back", X))
        self.assertEqual(next_rows(rows, 0), [1])

    def test_an_unless_behind_and_ahead_is_rising(self):
        for n in range(60):
            rows = (("tell", X),) * 30 + (("unless", X, n),) + (("tell", X),) * 28 + (("back", X),)
            self.assertEqual(next_rows(rows, 30), sorted({31, n}))

    def test_alone(self):
        self.assertEqual(next_rows((("go", 0),), 0), [0])
        self.assertEqual(next_rows((("back", X),), 0), [])

    def test_the_list_is_the_askers_own(self):
        before = copy.deepcopy(self.rows)
        for r in range(len(self.rows)):
            first = next_rows(self.rows, r)
            self.assertIs(type(first), list)
            kept = list(first)
            second = next_rows(self.rows, r)
            self.assertIsNot(first, second)
            first.append(99)
            self.assertEqual(second, kept)
            self.assertEqual(next_rows(self.rows, r), kept)
        self.assertTrue(alike(self.rows, before))


class Texts(unittest.TestCase):
    def test_the_text_of_each(self):
        for row, text in ROWS:
            self.assertEqual(row_text(row), text)

    def test_there_and_back(self):
        for row, text in ROWS:
            self.assertTrue(alike(read_row(text), row), text)
            self.assertEqual(row_text(read_row(text)), text)

    def test_there_and_back_of_all_terms(self):
        for term, text in TERMS:
            for row, told in [(("let", "x", term), "let x " + text), (("put", "b", term), "put b " + text),
                              (("set", term, "f", Y), "set " + text + " f y"),
                              (("set", Y, "f", term), "set y f " + text),
                              (("new", "x", "n", (("a", term), ("b", term))),
                               "new x n a " + text + ", b " + text),
                              (("call", "x", "p", (term, Y, term)), "call x p " + text + " y " + text),
                              (("tell", term), "tell " + text), (("unless", term, 7), "unless " + text + " 7"),
                              (("back", term), "back " + text)]:
                self.assertEqual(row_text(row), told)
                self.assertTrue(alike(read_row(told), row), told)

    def test_numbers_of_up_to_a_hundred_and_twenty_figures(self):
        for many in range(1, 121):
            for n in (10 ** (many - 1), 10 ** many - 1):
                for row in (("go", n), ("unless", X, n)):
                    self.assertTrue(alike(read_row(row_text(row)), row))

    def test_numbers_come_back_as_numbers_and_truths_as_truths(self):
        self.assertTrue(alike(read_row("tell 1"), ("tell", ("number", 1))))
        self.assertTrue(alike(read_row("tell yes"), ("tell", ("truth", True))))
        self.assertTrue(alike(read_row("unless yes 1"), ("unless", ("truth", True), 1)))
        self.assertTrue(alike(read_row("go 0"), ("go", 0)))

    def refused(self, text):
        with self.assertRaises(NoText, msg=repr(text)[:60]):
            read_row(text)

    def test_texts_that_are_refused(self):
        for text in ["", " ", "x", "1", "(not x)", "let", "let ", "let x", "let x ", "let x 1 ", " let x 1",
                     "  let x 1", "let  x 1", "let x  1", "let x 1\n", "\nlet x 1", "let\tx 1", "let x\n1",
                     "let x 1 2", "let x y z", "let x = 1", "let x, 1", "let, x 1", "let x 1,", "let x 1, ", ",",
                     "let 1 x", "let yes 1", "let number 1", "let X 1", "let abcdefghi 1", "let (x) 1", "let #x 1",
                     "let x number", "let x 01", "let x 1000000000000", "let x (add x)", "let x (add x 1", "let x)",
                     "let x (add x 1))", "let x (add x  1)", "let x (add x 1 )", "let (add x 1)", "Let x 1",
                     "put", "put b", "put b x y", "put #b x", "put no x", "put (b) x", "put b = 1", "put b (x)",
                     "set", "set x", "set x f", "set x f 1 2", "set x 1 f", "set x (f) 1", "set f", "set x yes 1",
                     "set (x) f 1", "set x #f 1", "set x f (1)", "set x.f 1",
                     "new", "new x", "new x ", "new x n ", "new x n a", "new x n a ", "new x n a 1,", "new x n a 1, ",
                     "new x n a 1,b 2", "new x n a 1 , b 2", "new x n a 1,  b 2", "new x n a 1 b 2", "new x n, a 1",
                     "new x n , a 1", "new x n a 1, b", "new x n a 1, b 2 3", "new x n a 1, , b 2", "new x n a 1 2",
                     "new x n b 1, a 2", "new x n a 1, a 2", "new x n a 1, a 1", "new x n a 1, c 1, b 1",
                     "new x n a 1, b 1, b 2", "new x n aa 1, a 1", "new x n A 1", "new x n yes 1", "new x n 1 1",
                     "new x n (a) 1", "new x n #a 1", "new x number", "new x N", "new no n", "new x (n)",
                     "new x n (a 1)", "new x n a (x)", "new x n a x, b (not x", "new x n a (add x, y)",
                     "new x n a 1, b 2, ", "new x n a 1\n, b 2", "new x n a 01", "new x, n", "new, x n",
                     "call", "call x", "call x ", "call x p ", "call x p  1", "call x p 1 ", "call x p 1, 2",
                     "call x p, 1", "call x p (1)", "call x p ()", "call x p(1)", "call x (p)", "call p", "call 1 p",
                     "call x 1", "call x yes", "call yes p", "call x P", "call x #p", "call x p 01", "call x p X",
                     "call x p (add x)", "call x p (not x)(not y)", "call x p x,", "call x = p",
                     "tell", "tell ", "tell x y", "tell 1 2", "tell (x)", "tell x,", "tell, x", "tell X", "tell  x",
                     "mark", "mark ", "mark m ", "mark  m", "mark m n", "mark 1", "mark yes", "mark number", "mark M",
                     "mark (m)", "mark #m", "mark m,", "mark m\n",
                     "go", "go ", "go x", "go 0 ", "go  0", "go 00", "go 01", "go 1 2", "go -1", "go +1", "go 1.0",
                     "go 1,", "go 1_0", "go 0x1", "go yes", "go (1)", "go #1", "go 0\n", "go \u0661", "go \u00b2",
                     "go -0", "Go 0", "go0", "go" + " 0" * 2, "go 1e3",
                     "unless", "unless x", "unless 1", "unless x ", "unless x 1 ", "unless x 1 2", "unless 1 x",
                     "unless x y", "unless x -1", "unless x +1", "unless x 01", "unless x (1)", "unless (x) 1",
                     "unless x, 1", "unless x  1", "unless (not x)1", "unless x 1.0", "unless x yes",
                     "back", "back ", "back x y", "back (x)", "back x ", " back x", "back x,", "back number",
                     "when x 1", "say x", "lets x 1", "part p () number", "kind n", "box b number = 1", "number x",
                     "go 0go 0", "go 0 go 0", "go 0\ngo 0", "(let x 1)", "let(x 1)", "#let x 1"]:
            self.refused(text)

    def test_bad_names_are_refused(self):
        for word in BAD_NAMES:
            if " " in word:
                continue
            for text in ("let {} x", "put {} x", "set x {} x", "new {} n", "new x {}", "new x n {} x", "call {} p",
                         "call x {}", "mark {}"):
                self.refused(text.format(word))

    def test_sign_by_sign(self):
        for _, text in ROWS:
            if len(text) < 60:
                for other in tampered(text, "() #,x10-N\n"):
                    if is_row_text(other):
                        self.assertEqual(row_text(read_row(other)), other)
                    else:
                        self.refused(other)

    def test_all_words_with_a_few_parts(self):
        words = ["let", "put", "set", "new", "call", "tell", "mark", "go", "unless", "back", "x", "add", "1"]
        parts = [" x", " f", " 1", " (not x)", " yes", ","]
        for word in words:
            for many in range(5):
                for rest in itertools.product(parts, repeat=many):
                    text = word + "".join(rest)
                    if is_row_text(text):
                        self.assertEqual(row_text(read_row(text)), text)
                    else:
                        self.refused(text)

    def test_things_that_are_no_texts(self):
        for thing in odd_things() + [0, 1, True, (), ("go", 0), ["go 0"], b"go 0", ("go 0",)]:
            self.refused(thing)

    def test_thousands_of_brackets(self):
        for many in (2000, 3000):
            for inner in ["(" * many, ")" * many, "(" * many + ")" * many, "(" * many + "x" + ")" * many,
                          "(not " * many, "(not " * many + "x" + ")" * many, "(empty " + "[" * many + ")",
                          "(empty " + "[" * many + "a" + "]" * many + ")"]:
                for ahead in ("", "let x ", "tell ", "new x n a ", "call x p "):
                    self.refused(ahead + inner)
                self.refused("unless " + inner + " 3")
                self.refused("new x n a 1, b " + inner)

    def test_behind_a_refusal_a_right_text_is_read(self):
        for bad in ["", "(" * 5000, "let x", None, "go 01", "tell (not " * 1000]:
            for row, text in ROWS:
                self.refused(bad)
                self.assertTrue(alike(read_row(text), row))

    def test_deep_terms(self):
        term = deep(11, YES, lambda inner: ("list", inner, number(1)))
        row = ("new", "x", "n", (("a", term), ("b", X)))
        self.assertTrue(alike(read_row(row_text(row)), row))


class Asked(unittest.TestCase):
    def test_asked_again_all_is_told_alike(self):
        for row, text in ROWS:
            before = copy.deepcopy(row)
            first = (is_row(row), row_text(row), read_row(text))
            second = (is_row(row), row_text(row), read_row(text))
            self.assertTrue(alike(first, second))
            self.assertTrue(alike(row, before))

    def test_lists_that_are_handed_in_stay(self):
        for thing in [["go", 0], ("new", "x", "n", [["a", X]]), ("call", "x", "p", [X])]:
            before = copy.deepcopy(thing)
            self.assertIs(is_row(thing), False)
            self.assertTrue(alike(thing, before))


if __name__ == "__main__":
    unittest.main()
