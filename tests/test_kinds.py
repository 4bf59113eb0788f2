"""Names and kinds, points 2, 4 and 7."""

import copy
import itertools
import re
import unittest

from changewhile.errors import NoText
from changewhile.kinds import is_kind, is_name, kind_text, names_in, read_kind
from tests.examples import (BAD_KINDS, BAD_NAMES, GOOD_NAMES, KINDS, NUMBER, TRUTH, alike, deep, odd_things,
                            tampered)


def listed(kind):
    return ("list", kind)


def is_kind_text(text):
    """The same by another way: equally many brackets around a bare kind."""
    match = re.fullmatch(r"(\[*)([a-z]{1,8})(\]*)", text)
    if not match or len(match[1]) != len(match[3]):
        return False
    return match[2] not in ("yes", "no")


class Names(unittest.TestCase):
    def test_names(self):
        for name in GOOD_NAMES:
            self.assertIs(is_name(name), True, name)

    def test_each_letter_and_each_length(self):
        for letter in "abcdefghijklmnopqrstuvwxyz":
            for many in range(1, 9):
                self.assertIs(is_name(letter * many), True)
            self.assertIs(is_name(letter * 9), False)

    def test_texts_that_are_none(self):
        for text in BAD_NAMES:
            self.assertIs(is_name(text), False, repr(text))

    def test_each_other_sign(self):
        for code in range(0x250):
            sign = chr(code)
            self.assertIs(is_name(sign), "a" <= sign <= "z", code)
            self.assertIs(is_name("a" + sign), "a" <= sign <= "z", code)

    def test_things_that_are_no_texts(self):
        for thing in odd_things() + [1, 0, True, False, ("a",), ["a"], {"a": 1}, b"a"]:
            self.assertIs(is_name(thing), False, repr(thing))


class Kinds(unittest.TestCase):
    def test_kinds(self):
        for kind, _ in KINDS:
            self.assertIs(is_kind(kind), True, kind)

    def test_records_of_all_names(self):
        for name in GOOD_NAMES:
            self.assertIs(is_kind(("record", name)), True, name)
        for name in BAD_NAMES:
            self.assertIs(is_kind(("record", name)), False, repr(name))
            self.assertIs(is_kind(("list", ("record", name))), False, repr(name))

    def test_things_that_are_none(self):
        for thing in BAD_KINDS + odd_things():
            self.assertIs(is_kind(thing), False, repr(thing))

    def test_things_that_are_none_eight_lists_deep(self):
        for thing in BAD_KINDS + odd_things():
            for depth in range(1, 9):
                self.assertIs(is_kind(deep(depth, thing, listed)), False, repr(thing))

    def test_a_list_in_the_place_of_a_tuple_at_each_depth(self):
        for depth in range(8):
            thing = deep(depth, NUMBER, listed)
            self.assertIs(is_kind(deep(7 - depth, ["list", thing], listed)), False)

    def test_all_tuples_of_a_few_things(self):
        things = ["number", "truth", "list", "record", "a", "yes", NUMBER, 1]
        right = {NUMBER, TRUTH, ("list", NUMBER)}
        right.update(("record", name) for name in ("list", "record", "a"))
        for many in range(4):
            for thing in itertools.product(things, repeat=many):
                self.assertIs(is_kind(thing), thing in right, thing)


class Texts(unittest.TestCase):
    def test_the_text_of_each(self):
        for kind, text in KINDS:
            self.assertEqual(kind_text(kind), text)

    def test_there_and_back(self):
        for kind, text in KINDS:
            self.assertTrue(alike(read_kind(text), kind), text)
            self.assertEqual(kind_text(read_kind(text)), text)

    def test_there_and_back_at_each_depth(self):
        for bottom in [NUMBER, TRUTH] + [("record", name) for name in GOOD_NAMES]:
            for depth in range(9):
                kind = deep(depth, bottom, listed)
                self.assertEqual(kind_text(kind), "[" * depth + bottom[-1] + "]" * depth)
                self.assertTrue(alike(read_kind(kind_text(kind)), kind))

    def refused(self, text):
        with self.assertRaises(NoText, msg=repr(text)[:60]):
            read_kind(text)

    def test_texts_that_are_refused(self):
        for text in ["", " ", "[]", "[", "]", "[[]]", "[number", "number]", "[[number]", "[number]]",
                     "]number[", "[number][", "[]number", "number[]", "[number][number]", " number", "number ",
                     "number\n", "\nnumber", "number\t", "[ number]", "[number ]", "[number]\n", " [number]",
                     "[number] ", "number,", ",number", "[number, number]", "number number", "number, truth",
                     "Number", "NUMBER", "numbers1", "(number)", "{number}", "#pair", "list number", "record a",
                     "yes", "no", "[yes]", "[no]", "0", "1", "[1]", "r0", "abcdefghi", "Pair", "a1", "a b", "a_b",
                     "\u03b1", "[\uff41]", "number\r", "number\x00", "[[a]b]", "[a[b]]", "(list number)"]:
            self.refused(text)

    def test_bad_names_are_refused(self):
        for name in BAD_NAMES:
            if name in ("number", "truth", "[a]"):
                continue
            self.refused(name)
            self.refused("[" + name + "]")

    def test_sign_by_sign(self):
        for _, text in KINDS:
            for other in tampered(text, "[] ,an1N\n"):
                if is_kind_text(other):
                    self.assertEqual(kind_text(read_kind(other)), other)
                else:
                    self.refused(other)

    def test_things_that_are_no_texts(self):
        for thing in odd_things() + [1, 0, True, False, NUMBER, ("record", "a"), ["number"], b"number", b"[a]"]:
            self.refused(thing)

    def test_thousands_of_brackets(self):
        for many in (2000, 5000, 9000):
            for text in ["[" * many, "]" * many, "[" * many + "]" * many, "[" * many + "number",
                         "number" + "]" * many, "[" * many + "number" + "]" * many,
                         "[" * many + "a" + "]" * many, "[" * many + "number" + "]" * (many - 1),
                         "[]" * many, "][" * many]:
                self.refused(text)

    def test_behind_a_refusal_a_right_text_is_read(self):
        for bad in ["", "[", "[" * 5000, "number ", None, "[number]]", "yes"]:
            for kind, text in KINDS:
                self.refused(bad)
                self.assertTrue(alike(read_kind(text), kind))

    def test_a_refusal_is_a_value_error(self):
        with self.assertRaises(ValueError):
            read_kind("[")


class NamesIn(unittest.TestCase):
    def test_names_in_kinds(self):
        for depth in range(9):
            self.assertEqual(names_in(deep(depth, NUMBER, listed)), [])
            self.assertEqual(names_in(deep(depth, TRUTH, listed)), [])
            self.assertEqual(names_in(deep(depth, ("record", "pair"), listed)), ["pair"])
        self.assertEqual(names_in(("record", "list")), ["list"])
        self.assertEqual(names_in(("list", ("record", "record"))), ["record"])

    def test_the_list_is_the_askers_own(self):
        for kind, _ in KINDS:
            first = names_in(kind)
            self.assertIs(type(first), list)
            kept = list(first)
            second = names_in(kind)
            self.assertIsNot(first, second)
            first.append("other")
            self.assertEqual(second, kept)
            self.assertEqual(names_in(kind), kept)


class Asked(unittest.TestCase):
    def test_asked_again_all_is_told_alike_and_nothing_changes(self):
        for kind, text in KINDS:
            before = copy.deepcopy(kind)
            first = (is_kind(kind), kind_text(kind), names_in(kind), read_kind(text))
            second = (is_kind(kind), kind_text(kind), names_in(kind), read_kind(text))
            self.assertTrue(alike(first, second))
            self.assertTrue(alike(kind, before))

    def test_lists_that_are_handed_in_stay(self):
        for thing in [["list", ["number"]], ("list", ["number"]), ("record", ["a"])]:
            before = copy.deepcopy(thing)
            self.assertIs(is_kind(thing), False)
            self.assertTrue(alike(thing, before))


if __name__ == "__main__":
    unittest.main()
