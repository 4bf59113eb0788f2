"""Terms, points 2, 6 and 7."""

import copy
import itertools
import re
import unittest

from changewhile.errors import NoText
from changewhile.terms import is_term, parts_of, read_term, term_text, with_names
from tests.examples import (BAD_KINDS, BAD_NAMES, BAD_TERMS, GOOD_NAMES, KINDS, NUMBER, ONE_PART_WORDS, TERMS,
                            THREE_PART_WORDS, TRUTH, TWO_PART_WORDS, X, XS, Y, YES, alike, deep, name, number,
                            odd_things, tampered)

NAME = r"(?!(?:number|truth|yes|no)(?![a-z]))[a-z]{1,8}(?![a-z])"
LEAF = r"(?:(?:0|[1-9][0-9]{0,11})|yes|no|#" + NAME + r"|" + NAME + r"|@)"
BRACKETS = re.compile(
    r"\((?:add|less|times|under|same|both|join) L L\)|\((?:not|many) L\)|\((?:pick|at) L L L\)"
    r"|\(list(?: L){1,8}\)|\(field L N\)|\(empty (\[*)(?:number|truth|N)(\]*)\)".replace("L", LEAF).replace("N", NAME))


def crossed_terms(text):
    """The text with each term in brackets crossed out, another way to read than the program's."""
    if "@" in text or "!" in text:
        return "!"

    def crossed(match):
        return "@" if len(match[1] or "") == len(match[2] or "") else "!"

    while True:
        shorter = BRACKETS.sub(crossed, text)
        if shorter == text:
            return text
        text = shorter


def is_term_text(text):
    return re.fullmatch(LEAF, crossed_terms(text)) is not None


class Terms(unittest.TestCase):
    def test_terms(self):
        for term, _ in TERMS:
            self.assertIs(is_term(term), True, term)

    def test_all_eighteen_words(self):
        words = {term[0] for term, _ in TERMS}
        self.assertEqual(len(words), 18)

    def test_names_and_boxes_of_all_names(self):
        for word in GOOD_NAMES:
            self.assertIs(is_term(("name", word)), True)
            self.assertIs(is_term(("box", word)), True)
            self.assertIs(is_term(("field", X, word)), True)
        for word in BAD_NAMES:
            self.assertIs(is_term(("name", word)), False)
            self.assertIs(is_term(("box", word)), False)
            self.assertIs(is_term(("field", X, word)), False)

    def test_empty_of_all_kinds(self):
        for kind, _ in KINDS:
            self.assertIs(is_term(("empty", kind)), True)
        for kind in BAD_KINDS + odd_things():
            self.assertIs(is_term(("empty", kind)), False, repr(kind))

    def test_the_ends_of_numbers(self):
        for n in (0, 1, 10 ** 12 - 1):
            self.assertIs(is_term(number(n)), True)
        for n in (-1, 10 ** 12, True, False, 0.0):
            self.assertIs(is_term(number(n)), False)

    def test_truths(self):
        for truth in (True, False):
            self.assertIs(is_term(("truth", truth)), True)
        for truth in (1, 0, "yes", None):
            self.assertIs(is_term(("truth", truth)), False)

    def test_how_many_parts(self):
        counts = {word: [2] for word in TWO_PART_WORDS}
        counts.update((word, [1]) for word in ONE_PART_WORDS)
        counts.update((word, [3]) for word in THREE_PART_WORDS)
        counts["list"] = [1, 2, 3, 4, 5, 6, 7, 8]
        for word, right in counts.items():
            for many in range(12):
                self.assertIs(is_term((word,) + (X,) * many), many in right, (word, many))
        for word in ("number", "truth", "name", "box", "empty", "field"):
            for many in range(12):
                self.assertIs(is_term((word,) + (X,) * many), False, (word, many))

    def test_things_that_are_none(self):
        for thing in BAD_TERMS + odd_things():
            self.assertIs(is_term(thing), False, repr(thing))

    def test_things_that_are_none_within_each_word(self):
        for thing in BAD_TERMS + odd_things():
            for word in TWO_PART_WORDS:
                self.assertIs(is_term((word, thing, X)), False, repr(thing))
                self.assertIs(is_term((word, X, thing)), False, repr(thing))
            for word in ONE_PART_WORDS:
                self.assertIs(is_term((word, thing)), False, repr(thing))
            for word in THREE_PART_WORDS:
                for k in range(3):
                    parts = [X, X, X]
                    parts[k] = thing
                    self.assertIs(is_term((word, *parts)), False, repr(thing))
            for k in range(8):
                self.assertIs(is_term(("list",) + (X,) * k + (thing,) + (X,) * (7 - k)), False, repr(thing))
            self.assertIs(is_term(("field", thing, "f")), False, repr(thing))

    def test_things_that_are_none_twelve_deep(self):
        for thing in BAD_TERMS + odd_things():
            self.assertIs(is_term(deep(11, thing, lambda inner: ("add", X, inner))), False, repr(thing))
            self.assertIs(is_term(deep(11, thing, lambda inner: ("field", inner, "f"))), False, repr(thing))

    def test_eighty_parts(self):
        eight = ("list",) + (X,) * 8
        term = ("list",) + (eight,) * 8
        self.assertIs(is_term(term), True)
        self.assertTrue(alike(read_term(term_text(term)), term))


class Parts(unittest.TestCase):
    def test_parts_of_each(self):
        for leaf in (number(5), YES, X, ("box", "b"), ("empty", NUMBER), ("empty", ("list", TRUTH))):
            self.assertEqual(parts_of(leaf), [])
        for word in TWO_PART_WORDS:
            self.assertEqual(parts_of((word, X, number(1))), [X, number(1)])
        for word in ONE_PART_WORDS:
            self.assertEqual(parts_of((word, ("add", X, Y))), [("add", X, Y)])
        for word in THREE_PART_WORDS:
            self.assertEqual(parts_of((word, Y, X, YES)), [Y, X, YES])
        self.assertEqual(parts_of(("field", ("at", XS, X, Y), "f")), [("at", XS, X, Y)])
        for many in range(1, 9):
            parts = [number(n) for n in range(many)]
            self.assertEqual(parts_of(("list", *parts)), parts)
        self.assertEqual(parts_of(("add", X, X)), [X, X])

    def test_the_list_is_the_askers_own(self):
        for term, _ in TERMS:
            before = copy.deepcopy(term)
            first = parts_of(term)
            self.assertIs(type(first), list)
            kept = list(first)
            second = parts_of(term)
            self.assertIsNot(first, second)
            first.append(X)
            self.assertTrue(alike(second, kept))
            self.assertTrue(alike(parts_of(term), kept))
            self.assertTrue(alike(term, before))


class WithNames(unittest.TestCase):
    def exchanged(self, term, terms, told):
        self.assertTrue(alike(with_names(term, terms), told), (with_names(term, terms), told))

    def test_leaves(self):
        self.exchanged(X, {"x": number(1)}, number(1))
        self.exchanged(X, {"y": number(1)}, X)
        self.exchanged(X, {}, X)
        self.exchanged(X, {"x": X}, X)
        self.exchanged(X, {"x": ("add", X, X)}, ("add", X, X))
        for leaf in (number(1), number(0), YES, ("truth", False)):
            self.exchanged(leaf, {"x": Y}, leaf)

    def test_boxes_fields_names_and_kinds_stay(self):
        terms = {"x": number(1), "f": number(2), "b": number(3)}
        self.exchanged(("box", "x"), terms, ("box", "x"))
        self.exchanged(("box", "b"), terms, ("box", "b"))
        self.exchanged(("empty", ("record", "x")), terms, ("empty", ("record", "x")))
        self.exchanged(("empty", ("list", ("record", "f"))), terms, ("empty", ("list", ("record", "f"))))
        self.exchanged(("field", name("f"), "f"), terms, ("field", number(2), "f"))
        self.exchanged(("field", X, "x"), {"x": Y}, ("field", Y, "x"))
        self.exchanged(("field", ("field", X, "x"), "x"), {"x": Y}, ("field", ("field", Y, "x"), "x"))

    def test_all_at_once(self):
        self.exchanged(("add", X, Y), {"x": Y, "y": X}, ("add", Y, X))
        self.exchanged(("list", X, Y, name("z")), {"x": Y, "y": name("z"), "z": X}, ("list", Y, name("z"), X))
        self.exchanged(("add", X, Y), {"y": X, "x": number(1)}, ("add", number(1), X))
        self.exchanged(("add", Y, X), {"x": Y, "y": number(1)}, ("add", number(1), Y))

    def test_what_came_in_is_not_exchanged_again(self):
        self.exchanged(("not", X), {"x": ("not", X)}, ("not", ("not", X)))
        self.exchanged(("add", X, X), {"x": ("add", X, Y), "y": X}, ("add", ("add", X, Y), ("add", X, Y)))

    def test_each_word_in_its_order(self):
        terms = {"x": number(1), "y": YES}
        for word in TWO_PART_WORDS:
            self.exchanged((word, X, Y), terms, (word, number(1), YES))
            self.exchanged((word, Y, XS), terms, (word, YES, XS))
        for word in ONE_PART_WORDS:
            self.exchanged((word, X), terms, (word, number(1)))
        for word in THREE_PART_WORDS:
            self.exchanged((word, X, XS, Y), terms, (word, number(1), XS, YES))
        for many in range(1, 9):
            self.exchanged(("list",) + (X, Y) * (many // 2) + (XS,) * (many % 2), terms,
                           ("list",) + (number(1), YES) * (many // 2) + (XS,) * (many % 2))
        self.exchanged(("field", X, "f"), terms, ("field", number(1), "f"))

    def test_deep_within(self):
        for wrap in (lambda inner: ("add", X, inner), lambda inner: ("add", inner, X),
                     lambda inner: ("pick", YES, inner, X), lambda inner: ("list", X, inner, Y),
                     lambda inner: ("field", inner, "x"), lambda inner: ("not", inner)):
            term = deep(11, X, wrap)
            self.exchanged(term, {"x": Y, "y": X}, swapped(term))
        self.exchanged(
            ("pick", ("under", X, number(3)), ("at", XS, X, ("field", Y, "x")), ("many", ("list", X, ("box", "x")))),
            {"x": ("add", X, number(1)), "xs": ("empty", ("record", "x"))},
            ("pick", ("under", ("add", X, number(1)), number(3)),
             ("at", ("empty", ("record", "x")), ("add", X, number(1)), ("field", Y, "x")),
             ("many", ("list", ("add", X, number(1)), ("box", "x")))))

    def test_all_examples_without_such_names_stay(self):
        for term, _ in TERMS:
            self.exchanged(term, {}, term)
            self.exchanged(term, {"nowhere": number(1)}, term)

    def test_all_examples_with_names_swapped(self):
        for term, _ in TERMS:
            self.exchanged(term, {"x": Y, "y": X}, swapped(term))

    def test_what_is_handed_in_stays(self):
        terms = {"x": ("add", X, Y), "y": X}
        before = copy.deepcopy(terms)
        term = ("list", X, Y, ("field", X, "y"))
        kept = copy.deepcopy(term)
        told = with_names(term, terms)
        again = with_names(term, terms)
        self.assertTrue(alike(told, again))
        self.assertTrue(alike(terms, before))
        self.assertTrue(alike(term, kept))
        terms["x"] = number(7)
        self.assertTrue(alike(told, ("list", ("add", X, Y), X, ("field", ("add", X, Y), "y"))))

    def test_what_was_told_may_be_handed_in_again(self):
        term = deep(11, X, lambda inner: ("add", number(1), inner))
        told = X
        for _ in range(5):
            told = with_names(term, {"x": told})
        self.assertIs(is_term(told), True)
        self.assertEqual(term_text(told), "(add 1 " * 55 + "x" + ")" * 55)
        self.assertTrue(alike(read_term(term_text(told)), told))
        self.assertEqual(parts_of(told)[0], number(1))


def swapped(thing):
    """A term with x and y exchanged, by another way than the program's."""
    if thing in (X, Y):
        return Y if thing == X else X
    if isinstance(thing, tuple) and thing[0] != "empty":
        return tuple(swapped(part) for part in thing)
    return thing


class Texts(unittest.TestCase):
    def test_the_text_of_each(self):
        for term, text in TERMS:
            self.assertEqual(term_text(term), text)

    def test_there_and_back(self):
        for term, text in TERMS:
            self.assertTrue(alike(read_term(text), term), text)
            self.assertEqual(term_text(read_term(text)), text)

    def test_there_and_back_of_all_words_with_all_leaves(self):
        leaves = [number(0), number(1), YES, ("truth", False), X, ("box", "x"), ("empty", ("list", NUMBER)),
                  ("field", X, "f")]
        for one, other in itertools.product(leaves, repeat=2):
            terms = [(word, one, other) for word in TWO_PART_WORDS] + [(word, one) for word in ONE_PART_WORDS]
            terms += [(word, one, other, one) for word in THREE_PART_WORDS]
            terms += [("list", one, other), ("list", one), ("field", one, "g"), ("list",) + (one, other) * 4]
            for term in terms:
                self.assertTrue(alike(read_term(term_text(term)), term), term)
                self.assertTrue(is_term_text(term_text(term)), term)

    def test_there_and_back_at_each_depth(self):
        for wrap in (lambda inner: ("add", X, inner), lambda inner: ("pick", inner, YES, X),
                     lambda inner: ("field", inner, "f"), lambda inner: ("list", X, inner, YES, number(1))):
            for depth in range(12):
                term = deep(depth, ("empty", ("list", ("record", "a"))), wrap)
                self.assertTrue(alike(read_term(term_text(term)), term))

    def test_numbers_come_back_as_numbers_and_truths_as_truths(self):
        self.assertTrue(alike(read_term("1"), ("number", 1)))
        self.assertTrue(alike(read_term("0"), ("number", 0)))
        self.assertTrue(alike(read_term("yes"), ("truth", True)))
        self.assertTrue(alike(read_term("no"), ("truth", False)))
        self.assertTrue(alike(read_term("(list 1 yes 0 no)"),
                              ("list", number(1), ("truth", True), number(0), ("truth", False))))

    def refused(self, text):
        with self.assertRaises(NoText, msg=repr(text)[:60]):
            read_term(text)

    def test_texts_that_are_refused(self):
        for text in ["", " ", "(", ")", "()", "( )", ")(", "(x)", "((x))", "x y", "x x", "1 2", " x", "x ", "x\n",
                     "\nx", "x\t", "(not x) ", " (not x)", "(not x)\n", "( not x)", "(not x )", "(not  x)",
                     "(not\tx)", "(not\nx)", "(not x))", "((not x)", "((not x))", "(not (x))", "(not x", "not x)",
                     "not x", "(not)", "(not )", "(not x y)", "(many)", "(many x y)", "(add)", "(add x)",
                     "(add x y z)", "(add x, y)", "(add, x y)", "(add x y,)", "(add(x) y)", "(add x(not y))",
                     "(add (not x)y)", "(add (not x)(not y))", "(add x (not y) )", "(pick x y)", "(pick x y z x)",
                     "(at x y)", "(at x y z x)", "(list)", "(list )", "(list x x x x x x x x x)", "[x]", "[1, 2]",
                     "[]", "(empty)", "(empty )", "(empty x y)", "(empty 1)", "(empty yes)", "(empty (x))",
                     "(empty [number)", "(empty number])", "(empty [number ])", "(empty (empty number))",
                     "(empty #b)", "(field x)", "(field x f g)", "(field f (not x))", "(field x 1)", "(field x yes)",
                     "(field x number)", "(field x #f)", "(field x Ff)", "(field x (f))", "(field x [f])",
                     "(Add x y)", "(ADD x y)", "(plus x y)", "(or x y)", "(if x y x)", "(number 1)", "(truth yes)",
                     "(name x)", "(box b)", "(#b x)", "(1 x y)", "(yes x)", "((not x) x)", "((add) x y)", "(x y z)",
                     "#", "# b", "##b", "#1", "#yes", "#no", "#number", "#truth", "#Bb", "#abcdefghi", "(#b)", "#(b)",
                     "b#", "x#b", "#b#", "(add # x)", "(add #1 x)",
                     "number", "truth", "(not number)", "(not truth)", "abcdefghi", "X", "xY", "x1", "1x", "x_y",
                     "00", "01", "007", "(add 00 x)", "(add 01 x)", "+1", "-1", "-0", "(add -1 x)", "(add +1 x)",
                     "1000000000000", "(add 1000000000000 x)", "9" * 13, "9" * 5000, "(not " + "9" * 5000 + ")",
                     "0" * 13, "1.0", "1_0", "1,0", "1e3", "0x1", "\u0661", "\uff11", "\u00b2", "(add \u00b2 x)",
                     "\u03b1", "x\u0301", "(not\u00a0x)", "(not\u2003x)", "True", "False", "None", "Yes", "'x'",
                     "r0 ", "r0", "(list r0)", "{x}", "x;", "x,", ",", ", x", "(list x, y)", "let x 1"]:
            self.refused(text)

    def test_names_that_are_words(self):
        for text in ("kind", "let", "add", "list", "lists", "empty", "numbers"):
            self.assertEqual(read_term(text), ("name", text))

    def test_bad_names_are_refused(self):
        for word in BAD_NAMES:
            if word in ("yes", "no", "0", "1", "#a"):
                continue
            for text in (word, "#" + word, "(not " + word + ")", "(field x " + word + ")"):
                self.refused(text)

    def test_sign_by_sign(self):
        for _, text in TERMS:
            if len(text) < 60:
                for other in tampered(text, "() #,[]x10-N\n"):
                    if is_term_text(other):
                        self.assertEqual(term_text(read_term(other)), other)
                    else:
                        self.refused(other)

    def test_words_exchanged(self):
        words = TWO_PART_WORDS + ONE_PART_WORDS + THREE_PART_WORDS + ["list", "empty", "field", "number", "truth",
                                                                       "name", "box", "let", "x", "1", "yes", "#b"]
        for word in words:
            for rest in itertools.chain([""], *(itertools.product([" x", " 1", " number", " [a]", " (not x)"],
                                                                  repeat=many) for many in range(1, 4))):
                text = "(" + word + "".join(rest) + ")"
                if is_term_text(text):
                    self.assertEqual(term_text(read_term(text)), text)
                else:
                    self.refused(text)

    def test_things_that_are_no_texts(self):
        for thing in odd_things() + [0, 1, True, (), X, number(1), ["x"], b"x", ("x",)]:
            self.refused(thing)

    def test_thousands_of_brackets(self):
        for many in (2000, 5000, 9000):
            for text in ["(" * many, ")" * many, "(" * many + ")" * many, "(" * many + "x" + ")" * many,
                         "()" * many, ")(" * many, "(not (" * (many // 2), "x" + ")" * many, "( " * many,
                         "(empty " + "[" * many + "number" + "]" * many + ")", "(empty " + "[" * many + ")",
                         "(empty " + "[" * many]:
                self.refused(text)
        for many in (2000, 3000):
            for text in ["(not " * many, "(not " * many + "x" + ")" * many, "(not " * many + "x" + ")" * (many - 1),
                         "(add x " * many + "x" + ")" * many, "(add " * many + "x" + " x)" * many,
                         "(list " * many + "x" + ")" * many, "(field " * many + "x" + " f)" * many]:
                self.refused(text)

    def test_behind_a_refusal_a_right_text_is_read(self):
        for bad in ["", "(", "(" * 5000, "(not x", None, "(not x))", "01", "(not " * 3000]:
            for term, text in TERMS:
                self.refused(bad)
                self.assertTrue(alike(read_term(text), term))


class Asked(unittest.TestCase):
    def test_asked_again_all_is_told_alike(self):
        for term, text in TERMS:
            before = copy.deepcopy(term)
            first = (is_term(term), term_text(term), parts_of(term), read_term(text), with_names(term, {"x": Y}))
            second = (is_term(term), term_text(term), parts_of(term), read_term(text), with_names(term, {"x": Y}))
            self.assertTrue(alike(first, second))
            self.assertTrue(alike(term, before))

    def test_lists_that_are_handed_in_stay(self):
        for thing in [["add", ["name", "x"], X], ("add", ["name", "x"], X), ("list", [X])]:
            before = copy.deepcopy(thing)
            self.assertIs(is_term(thing), False)
            self.assertTrue(alike(thing, before))


if __name__ == "__main__":
    unittest.main()
