"""Values, points 2, 5 and 7."""

import copy
import re
import unittest

from changewhile.errors import NoText
from changewhile.values import alike_values, is_of, is_plain, is_value, read_value, value_text
from tests.examples import (BAD_REFS, BAD_VALUES, NUMBER, RECORDS, REFS, TRUTH, VALUES, alike, deep, odd_things,
                            tampered)


def within(value):
    return (value,)


def is_value_text(text):
    """The same by another way: innermost lists are crossed out one by one."""
    if "@" in text:
        return False
    leaf = r"(?:0|[1-9][0-9]{0,11}|yes|no|@)"

    def crossed(match):
        return "@" if match[0].count(",") < 60 else "!"

    while True:
        shorter = re.sub(r"\[(?:" + leaf + r"(?:, " + leaf + r")*)?\]", crossed, text)
        if shorter == text:
            return re.fullmatch(leaf, text) is not None
        text = shorter


class Values(unittest.TestCase):
    def test_plain_values(self):
        for value, _ in VALUES:
            self.assertIs(is_value(value), True, value)
            self.assertIs(is_plain(value), True, value)

    def test_refs(self):
        for ref in REFS:
            self.assertIs(is_value(ref), True, ref)
            self.assertIs(is_plain(ref), False, ref)

    def test_a_value_with_a_ref_within_is_not_plain(self):
        for depth in range(1, 9):
            for ref in REFS:
                value = deep(depth, ref, within)
                self.assertIs(is_value(value), True)
                self.assertIs(is_plain(value), False)
        for value in [("r0", 1), (1, "r0"), (1, (True, "r5"), 2), ((), ((), ("r1",))), (1,) * 59 + ("r1",)]:
            self.assertIs(is_value(value), True)
            self.assertIs(is_plain(value), False)

    def test_the_ends_of_numbers(self):
        for number in (0, 1, 2, 10 ** 12 - 2, 10 ** 12 - 1):
            self.assertIs(is_value(number), True)
            self.assertIs(is_value((number,)), True)
        for number in (-1, -2, 10 ** 12, 10 ** 12 + 1, 2 ** 63, 10 ** 100, -10 ** 100):
            self.assertIs(is_value(number), False)
            self.assertIs(is_plain(number), False)
            self.assertIs(is_value((number,)), False)
            self.assertIs(is_plain((number,)), False)

    def test_texts_that_are_no_refs(self):
        for text in BAD_REFS:
            self.assertIs(is_value(text), False, repr(text))
            self.assertIs(is_plain(text), False, repr(text))
            self.assertIs(is_value((1, text)), False, repr(text))

    def test_a_ref_with_each_other_sign(self):
        for code in range(0x250):
            sign = chr(code)
            self.assertIs(is_value("r" + sign), sign in "0123456789", code)
            self.assertIs(is_value("r1" + sign), sign in "0123456789", code)

    def test_tuples_of_sixty_and_of_one_more(self):
        for leaf in (1, True, (), "r1"):
            self.assertIs(is_value((leaf,) * 60), True)
            self.assertIs(is_value((leaf,) * 61), False)
            self.assertIs(is_plain((leaf,) * 61), False)
            self.assertIs(is_plain((leaf,) * 60), leaf != "r1")
        self.assertIs(is_value(((1,) * 60, (1,) * 60)), True)
        self.assertIs(is_value(((1,) * 60, (1,) * 61)), False)

    def test_things_that_are_none(self):
        for thing in BAD_VALUES + odd_things():
            self.assertIs(is_value(thing), False, repr(thing))
            self.assertIs(is_plain(thing), False, repr(thing))

    def test_things_that_are_none_eight_tuples_deep(self):
        for thing in BAD_VALUES + BAD_REFS + odd_things():
            for depth in range(1, 9):
                self.assertIs(is_value(deep(depth, thing, within)), False, repr(thing))
                self.assertIs(is_plain(deep(depth, thing, within)), False, repr(thing))
                self.assertIs(is_value((1, deep(depth, thing, within), 2)), False, repr(thing))

    def test_values_of_two_thousand(self):
        value = ((1, True, "r1") * 20,) * 33
        self.assertIs(is_value(value), True)
        self.assertIs(is_plain(value), False)


class Texts(unittest.TestCase):
    def test_the_text_of_each(self):
        for value, text in VALUES:
            self.assertEqual(value_text(value), text)

    def test_there_and_back(self):
        for value, text in VALUES:
            self.assertTrue(alike(read_value(text), value), text)
            self.assertEqual(value_text(read_value(text)), text)

    def test_there_and_back_at_each_depth(self):
        for bottom in (0, 1, True, False, (), 10 ** 12 - 1):
            for depth in range(9):
                value = deep(depth, bottom, lambda inner: (1, inner, True))
                self.assertTrue(alike(read_value(value_text(value)), value))
                self.assertTrue(is_value_text(value_text(value)))

    def test_there_and_back_of_two_thousand(self):
        value = ((1, True, 0) * 20,) * 33
        self.assertTrue(alike(read_value(value_text(value)), value))

    def test_numbers_come_back_as_numbers_and_truths_as_truths(self):
        self.assertIs(type(read_value("1")), int)
        self.assertIs(type(read_value("0")), int)
        self.assertIs(read_value("yes"), True)
        self.assertIs(read_value("no"), False)
        self.assertEqual([type(part) for part in read_value("[1, yes, 0, no]")], [int, bool, int, bool])
        self.assertEqual(value_text((1, True, 0, False)), "[1, yes, 0, no]")

    def refused(self, text):
        with self.assertRaises(NoText, msg=repr(text)[:60]):
            read_value(text)

    def test_texts_that_are_refused(self):
        for text in ["", " ", "[", "]", "[[]", "[]]", "][", "[][]", "[], []", "[] []", ",", ", ", "1,", "1, ", ",1",
                     "1 2", "1, 2", "[1 2]", "[1,2]", "[1,  2]", "[1 , 2]", "[ 1, 2]", "[1, 2 ]", "[1, 2,]",
                     "[1, 2, ]", "[, 1]", "[,]", "[, ]", "[1,, 2]", "[1, , 2]", "[1[]]", "[[]1]", "[[] []]",
                     "[[],[]]", "[1]2", "1[2]", "[ ]", "[]\n", "\n[]", " []", "[] ", "1\n", "\n1", " 1", "1 ", "1\t",
                     "[1,\n2]", "[1\n]", "00", "01", "007", "[00]", "[1, 02]", "+1", "-1", "-0", "+0", "[-1]", "1.0",
                     "1e3", "0x1", "1_000", "1 000", "1,000", "1000000000000", "[1000000000000]", "0" * 12,
                     "9" * 13, "1" + "0" * 60, "9" * 5000, "0" * 5000, "\u0661", "\uff11", "\u00b2", "1\u0661",
                     "r0", "r12", "[r0]", "[1, r0]", "Yes", "YES", "No", "True", "False", "None", "true", "yess",
                     "ye", "n", "yes no", "yesno", "yes,no", "number", "truth", "a", "abc", "x", "'1'", "\"1\"",
                     "(1)", "(1, 2)", "{1}", "[1, 2)", "#1", "[1; 2]", "[[1, 2], [3], ]", "1\r", "[1\x1c]", "1\x00"]:
            self.refused(text)

    def test_sixty_one_values(self):
        self.assertEqual(read_value("[" + ", ".join(["1"] * 60) + "]"), (1,) * 60)
        self.refused("[" + ", ".join(["1"] * 61) + "]")
        self.refused("[[" + ", ".join(["yes"] * 61) + "]]")
        self.refused("[1, [" + ", ".join(["[]"] * 61) + "]]")

    def test_sign_by_sign(self):
        for _, text in VALUES[:20]:
            for other in tampered(text, "[], 01-r\nyesno"):
                if is_value_text(other):
                    self.assertEqual(value_text(read_value(other)), other)
                else:
                    self.refused(other)

    def test_things_that_are_no_texts(self):
        for thing in odd_things() + [0, 1, True, False, (), (1,), b"1", b"[]"]:
            self.refused(thing)

    def test_thousands_of_brackets(self):
        for many in (2000, 5000, 9000):
            for text in ["[" * many, "]" * many, "[" * many + "]" * many, "[" * many + "1", "1" + "]" * many,
                         "[" * many + "1" + "]" * many, "[" * many + "1" + "]" * (many - 1), "[]" * many,
                         "][" * many, "[1, " * many, "[1, " * many + "1" + "]" * many]:
                self.refused(text)

    def test_behind_a_refusal_a_right_text_is_read(self):
        for bad in ["", "[", "[" * 5000, "[1,2]", None, "[1]]", "r0", "01"]:
            for value, text in VALUES:
                self.refused(bad)
                self.assertTrue(alike(read_value(text), value))


class IsOf(unittest.TestCase):
    def is_of(self, kind, value, told, records=RECORDS):
        self.assertIs(is_of(kind, value, records), told, (kind, value))

    def test_bare_kinds(self):
        for value in (0, 1, 7, 10 ** 12 - 1):
            self.is_of(NUMBER, value, True)
            self.is_of(TRUTH, value, False)
        for value in (True, False):
            self.is_of(NUMBER, value, False)
            self.is_of(TRUTH, value, True)
        for value in ((), (1,), (True,), "r0", "r9"):
            self.is_of(NUMBER, value, False)
            self.is_of(TRUTH, value, False)

    def test_lists(self):
        self.is_of(("list", NUMBER), (), True)
        self.is_of(("list", NUMBER), (1, 2, 0), True)
        self.is_of(("list", NUMBER), (1, 2, False), False)
        self.is_of(("list", NUMBER), (True, 2, 0), False)
        self.is_of(("list", NUMBER), (1, (2,), 0), False)
        self.is_of(("list", NUMBER), (1, "r0"), False)
        self.is_of(("list", TRUTH), (), True)
        self.is_of(("list", TRUTH), (True, False), True)
        self.is_of(("list", TRUTH), (True, 0), False)
        self.is_of(("list", TRUTH), (1, True), False)
        for value in (1, True, False, "r0"):
            self.is_of(("list", NUMBER), value, False)
            self.is_of(("list", TRUTH), value, False)
            self.is_of(("list", ("record", "pair")), value, False)

    def test_lists_of_lists(self):
        kind = ("list", ("list", NUMBER))
        self.is_of(kind, (), True)
        self.is_of(kind, ((),), True)
        self.is_of(kind, ((), (1,), (2, 3)), True)
        self.is_of(kind, (1,), False)
        self.is_of(kind, ((1,), 2), False)
        self.is_of(kind, ((1,), (True,)), False)
        self.is_of(kind, (((),),), False)
        for depth in range(1, 9):
            deep_kind = deep(depth, NUMBER, lambda inner: ("list", inner))
            self.is_of(deep_kind, deep(depth, 1, within), True)
            self.is_of(deep_kind, deep(depth, True, within), False)
            self.is_of(deep_kind, deep(depth - 1, (), within), True)
            self.is_of(deep_kind, deep(depth, (), within), False)
            self.is_of(deep_kind, deep(depth - 1, 1, within), False)

    def test_records(self):
        self.is_of(("record", "pair"), "r0", True)
        self.is_of(("record", "pair"), "r3", True)
        self.is_of(("record", "node"), "r2", True)
        self.is_of(("record", "node"), "r0", False)
        self.is_of(("record", "pair"), "r2", False)
        self.is_of(("record", "pair"), "r1", False)
        self.is_of(("record", "node"), "r1", False)
        self.is_of(("record", "pair"), "r4", False)
        self.is_of(("record", "pair"), "r00", False)
        self.is_of(("record", "pair"), "r0", False, records={})
        for value in (0, 1, True, False, (), ("r0",)):
            self.is_of(("record", "pair"), value, False)

    def test_lists_of_records(self):
        kind = ("list", ("record", "pair"))
        self.is_of(kind, (), True)
        self.is_of(kind, ("r0", "r3", "r0"), True)
        self.is_of(kind, ("r0", "r2"), False)
        self.is_of(kind, ("r0", "r1"), False)
        self.is_of(kind, ("r0", "r7"), False)
        self.is_of(kind, ("r0", 0), False)
        self.is_of(("list", kind), (("r0",), (), ("r3", "r3")), True)
        self.is_of(("list", kind), (("r0",), "r3"), False)

    def test_what_is_handed_in_stays(self):
        records = copy.deepcopy(RECORDS)
        for value in ("r0", "r1", "r4", 1, ("r0", "r9")):
            first = is_of(("record", "pair"), value, records)
            self.assertIs(is_of(("record", "pair"), value, records), first)
        self.assertTrue(alike(records, RECORDS))
        records["r0"] = ("", ())
        self.is_of(("record", "pair"), "r0", False, records=records)
        self.is_of(("record", "pair"), "r0", True)


class Alike(unittest.TestCase):
    def both_ways(self, one, other, told):
        self.assertIs(alike_values(one, other), told, (one, other))
        self.assertIs(alike_values(other, one), told, (other, one))

    def test_each_with_itself_and_with_all_others(self):
        values = [value for value, _ in VALUES] + REFS
        for value in values:
            for other in values:
                self.both_ways(value, other, alike(value, other))

    def test_one_is_no_truth(self):
        self.both_ways(1, True, False)
        self.both_ways(0, False, False)
        self.both_ways(1, 1, True)
        self.both_ways(True, True, True)
        self.both_ways(True, False, False)
        self.both_ways((1,), (True,), False)
        self.both_ways((0, 1), (0, True), False)
        self.both_ways((1, 0), (True, 0), False)
        for depth in range(9):
            self.both_ways(deep(depth, 1, within), deep(depth, True, within), False)
            self.both_ways(deep(depth, 0, within), deep(depth, False, within), False)
            self.both_ways(deep(depth, 1, within), deep(depth, 1, within), True)
            self.both_ways(deep(depth, False, within), deep(depth, False, within), True)
            self.both_ways(deep(depth, 1, within), deep(depth, 2, within), False)
            self.both_ways(deep(depth, "r1", within), deep(depth, "r10", within), False)

    def test_other_lengths(self):
        self.both_ways((), (1,), False)
        self.both_ways((1,), (1, 1), False)
        self.both_ways((1, 2), (1, 2, 3), False)
        self.both_ways((1, 2), (2, 1), False)
        self.both_ways((1, 2, 3), (1, 9, 3), False)
        self.both_ways(((), ()), ((),), False)
        self.both_ways((1, (2, 3)), (1, (2,)), False)
        self.both_ways((), ((),), False)
        self.both_ways((1,) * 60, (1,) * 59, False)

    def test_other_sorts(self):
        sorts = [0, False, (), "r0"]
        for k, one in enumerate(sorts):
            for j, other in enumerate(sorts):
                self.both_ways(one, other, k == j)
                self.both_ways((one, 5), (other, 5), k == j)
        self.both_ways("r1", 1, False)
        self.both_ways(("r1",), "r1", False)

    def test_equal_ones_made_apart(self):
        self.both_ways(int("999999999999"), 10 ** 12 - 1, True)
        self.both_ways("r" + str(12), "r12", True)
        self.both_ways(tuple([1, tuple([True, "r5"])]), (1, (True, "r5")), True)


class Asked(unittest.TestCase):
    def test_asked_again_all_is_told_alike(self):
        for value, text in VALUES:
            before = copy.deepcopy(value)
            first = (is_value(value), is_plain(value), value_text(value), read_value(text))
            second = (is_value(value), is_plain(value), value_text(value), read_value(text))
            self.assertTrue(alike(first, second))
            self.assertTrue(alike(value, before))

    def test_lists_that_are_handed_in_stay(self):
        for thing in [[1, [2]], (1, [2, [3]]), {"r0": [1]}]:
            before = copy.deepcopy(thing)
            self.assertIs(is_value(thing), False)
            self.assertIs(is_plain(thing), False)
            self.assertTrue(alike(thing, before))


if __name__ == "__main__":
    unittest.main()
