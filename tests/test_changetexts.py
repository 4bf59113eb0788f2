"""The texts of changes, points 2 and 21."""

import copy
import unittest

from changewhile.changes import is_change
from changewhile.changetexts import change_text, read_change
from changewhile.errors import ChangeError, NoText
from changewhile.programtexts import program_text
from tests.examples import BAD_NAMES, NUMBER, PROGRAMS, TERMS, TRUTH, X, alike, name, number, odd_things, tampered
from tests.making import made_programs

IT = name("it")
PART = ((), NUMBER, (("mark", "m"), ("back", number(0))))

# Pairs of a change and its text.
CHANGES = [
    (((), {}, {}, {}, {}, {}), ""),
    ((("a",), {}, {}, {}, {}, {}), "out a\n"),
    ((("a", "b", "out"), {}, {}, {}, {}, {}), "out a\nout b\nout out\n"),
    (((), {"n": ()}, {}, {}, {}, {}), "kind n\n"),
    (((), {}, {"b": (NUMBER, 5)}, {}, {}, {}), "box b number = 5\n"),
    (((), {}, {}, {"p": PART}, {}, {}), "part p () number\n  mark m\n  back 0\n"),
    (((), {}, {}, {}, {"n": ()}, {}), "lead n\n"),
    (((), {}, {}, {}, {"n": (("f", X),)}, {}), "lead n f x\n"),
    (((), {}, {}, {}, {"n": (("f", X), ("g", number(1)), ("h", ("list", X, ("truth", True))))}, {}),
     "lead n f x, g 1, h (list x yes)\n"),
    (((), {}, {}, {}, {"lead": (("lead", name("lead")),)}, {}), "lead lead lead lead\n"),
    (((), {}, {}, {}, {"z": (), "a": (("f", X),), "ab": ()}, {}), "lead a f x\nlead ab\nlead z\n"),
    (((), {}, {}, {}, {}, {"b": IT}), "lead b it\n"),
    (((), {}, {}, {}, {}, {"b": ("add", IT, number(1)), "a": ("empty", ("record", "n")), "lead": ("truth", False)}),
     "lead a (empty n)\nlead b (add it 1)\nlead lead no\n"),
    (((), {}, {}, {}, {"n": (("f", X),), "m": (), "b": ()}, {"n": IT, "a": number(0)}),
     "lead b\nlead m\nlead n f x\nlead a 0\nlead n it\n"),
    ((("away", "off"), {"n": (("a", NUMBER), ("b", ("list", TRUTH))), "m": ()}, {"c": (TRUTH, True), "b": (NUMBER, 1)},
      {"q": PART, "p": ((("x", NUMBER),), NUMBER, (("go", 0),))}, {"n": (("a", name("b")),), "m": ()},
      {"b": ("add", IT, IT)}),
     "out away\nout off\nkind m\nkind n a number, b [truth]\nbox b number = 1\nbox c truth = yes\n"
     "part p (x number) number\n  go 0\npart q () number\n  mark m\n  back 0\nlead m\nlead n a b\nlead b (add it it)\n"),
    ((("n",), {"n": ()}, {}, {}, {"z": ()}, {"n": IT}), "out n\nkind n\nlead z\nlead n it\n"),
]

WHOLE = CHANGES[14][1]


def turned(things):
    return {key: things[key] for key in reversed(list(things))}


class Texts(unittest.TestCase):
    def test_the_text_of_each(self):
        for change, text in CHANGES:
            self.assertIs(is_change(change), True)
            self.assertEqual(change_text(change), text)

    def test_there_and_back(self):
        for change, text in CHANGES:
            told = read_change(text)
            self.assertTrue(alike(told, change), text)
            self.assertEqual(change_text(told), text)

    def test_the_empty_text_is_the_change_that_changes_nothing(self):
        self.assertTrue(alike(read_change(""), ((), {}, {}, {}, {}, {})))

    def test_there_and_back_of_all_programs(self):
        for program, text in PROGRAMS + [(made, program_text(made)) for made in made_programs(10)]:
            for outs, ahead in [((), ""), (("zz",), "out zz\n")]:
                for leads, behind in [(({}, {}), ""), (({"zz": ()}, {"zz": IT}), "lead zz\nlead zz it\n")]:
                    change = (outs, *program, *leads)
                    self.assertEqual(change_text(change), ahead + text + behind)
                    self.assertTrue(alike(read_change(ahead + text + behind), change))

    def test_there_and_back_of_all_terms_of_leads(self):
        for term, text in TERMS:
            for change, told in [(((), {}, {}, {}, {"n": (("f", term),)}, {}), "lead n f " + text + "\n"),
                                 (((), {}, {}, {}, {"n": (("f", term), ("g", X), ("h", term))}, {}),
                                  "lead n f " + text + ", g x, h " + text + "\n"),
                                 (((), {}, {}, {}, {}, {"b": term}), "lead b " + text + "\n")]:
                if is_change(change):
                    self.assertEqual(change_text(change), told)
                    self.assertTrue(alike(read_change(told), change))
                else:
                    with self.assertRaises(NoText, msg=told):
                        read_change(told)

    def test_the_same_whichever_way_the_dicts_were_made(self):
        for (outs, *things), text in CHANGES:
            self.assertEqual(change_text((outs, *[turned(one) for one in things])), text)
        letters = "tsrqponmlkjihgfedcba"
        change = (tuple(sorted(letters)), {"k" + one: () for one in letters}, {"b" + one: (NUMBER, 0) for one in letters},
                  {"p" + one: ((), NUMBER, (("go", 0),)) for one in letters}, {"k" + one: () for one in letters},
                  {"b" + one: IT for one in letters})
        text = change_text(change)
        self.assertEqual(text, change_text((change[0], *[turned(one) for one in change[1:]])))
        heads = [line.split(" ")[1] for line in text.splitlines() if not line.startswith(" ")]
        self.assertEqual(heads, [ahead + one for ahead in ("", "k", "b", "p", "k", "b") for one in sorted(letters)])
        self.assertTrue(alike(read_change(text), change))

    def test_numbers_come_back_as_numbers_and_truths_as_truths(self):
        told = read_change("box b truth = yes\nlead n f 1, g yes\nlead b no\n")
        self.assertTrue(alike(told, ((), {}, {"b": (TRUTH, True)}, {}, {"n": (("f", number(1)), ("g", ("truth", True)))},
                                     {"b": ("truth", False)})))


class Refusals(unittest.TestCase):
    def refused(self, text):
        with self.assertRaises(NoText, msg=repr(text)[:100]) as caught:
            read_change(text)
        self.assertIs(type(caught.exception), NoText)
        self.assertIsInstance(caught.exception, ChangeError)

    def test_lines_in_another_order(self):
        entries = ["out a\n", "out b\n", "kind c\n", "kind d a number\n", "box e number = 1\n", "box f truth = no\n",
                   "part g () number\n  back 0\n", "part h () number\n  back 0\n", "lead c\n", "lead d a 1\n",
                   "lead e it\n", "lead f (not it)\n"]
        self.assertEqual(change_text(read_change("".join(entries))), "".join(entries))
        for k in range(len(entries)):
            without = entries[:k] + entries[k + 1:]
            self.assertEqual(change_text(read_change("".join(without))), "".join(without))
            for j in range(len(entries)):
                if j != k:
                    self.refused("".join(without[:j] + [entries[k]] + without[j:]))
                    other = list(entries)
                    other[k], other[j] = other[j], other[k]
                    self.refused("".join(other))
                self.refused("".join(entries[:j] + [entries[k]] + entries[j:]))

    def test_lines_left_out_or_double_in_the_whole(self):
        lines = WHOLE.splitlines(keepends=True)
        for k, line in enumerate(lines):
            twice = "".join(lines[:k] + [line] + lines[k:])
            less = "".join(lines[:k] + lines[k + 1:])
            if line in ("  go 0\n", "  back 0\n"):
                self.assertEqual(change_text(read_change(twice)), twice)
                self.refused(less)
            else:
                self.refused(twice)
            if line.startswith("part p"):
                self.refused(less)
            elif line not in ("  go 0\n", "  back 0\n", "part q () number\n"):
                self.assertEqual(change_text(read_change(less)), less)

    def test_outs(self):
        for text in ["out", "out ", "out  a", " out a", "out a ", "out a b", "out a, b", "outa", "Out a", "out a\r",
                     "out A", "out yes", "out number", "out 1", "out #a", "out (a)", "out abcdefghi", "outs a", "out\ta",
                     "out b\nout a", "out a\nout a", "out aa\nout a", "out a\n\nout b", "out a = 1", "out a 1"]:
            self.refused(text + "\n")
            self.refused(text)
        self.refused("kind n\nout a\n")
        self.refused("part p () number\nout a\n  back 0\n")
        self.refused("part p () number\n  back 0\nout a\n")
        self.refused("lead b it\nout a\n")

    def test_leads(self):
        for text in ["lead", "lead ", "lead  n", " lead n", "lead n ", "leadn", "Lead n", "lead n\r", "lead N",
                     "lead yes", "lead number", "lead 1", "lead #n", "lead (n)", "lead abcdefghi", "leads n", "lead\tn",
                     "lead n,", "lead n ,", "lead n , f x", "lead n, f x", "lead n f x,", "lead n f x, ", "lead n f x,g 1",
                     "lead n f x,  g 1", "lead n f x , g 1", "lead n f  x", "lead n  f x", "lead n f x g 1",
                     "lead n f x, g", "lead n f, g 1", "lead n f x, g 1 2", "lead n f x 1", "lead n g 1, f x",
                     "lead n f x, f x", "lead n f x, f 1", "lead n F x", "lead n yes x", "lead n 1 x", "lead n (f) x",
                     "lead n (not f) x", "lead n f X", "lead n f (not x", "lead n f (not x))", "lead n f 01",
                     "lead n f #b", "lead n f (add 1 #b)", "lead n f (field x g)", "lead n f (list x (field x g))",
                     "lead n f 1000000000000", "lead n f x, g #b", "lead n f = x", "lead n f (sub x 1)", "lead n f ()",
                     "lead n aa x, a x", "lead n f x, , g 1", "lead n f x;", "lead n f [x]", "lead n f number x"]:
            self.refused(text + "\n")
            self.refused("lead a\n" + text + "\n")
            self.refused(text)

    def test_leads_of_boxes(self):
        for text in ["lead b  it", "lead b it ", " lead b it", "lead b #b", "lead b (field it f)", "lead b (not #b)",
                     "lead b (list it it", "lead b 01", "lead b IT", "lead b number", "lead b it,", "lead b (it)",
                     "lead B it", "lead yes it", "lead b = it", "lead b (add it (field it f))", "lead b it\r",
                     "lead b -1", "lead b [1]", "lead b \"it\"", "lead b (empty)", "lead b (add it)"]:
            self.refused(text + "\n")
            self.refused("lead a\n" + text + "\n")
            self.refused(text)
        self.refused("lead a it\nlead b\n")
        self.refused("lead b it\nlead a it\n")
        self.refused("lead b it\nlead b it\n")
        self.refused("lead b it\nlead n f x\n")
        self.refused("lead b it\nlead a\n")
        self.refused("lead b \n")
        self.refused("box b number = 1\nlead b \n")

    def test_leads_ahead_of_the_rest(self):
        for lead in ("lead n\n", "lead n f x\n", "lead b it\n"):
            for text in ("out a\n", "kind n\n", "box b number = 1\n", "part p () number\n  back 0\n"):
                self.assertEqual(change_text(read_change(text + lead)), text + lead)
                self.refused(lead + text)

    def test_leads_within_a_part(self):
        self.refused("part p () number\nlead n\n  back 0\n")
        self.refused("part p () number\n  tell 0\nlead n\n  back 0\n")
        self.refused("part p () number\n  lead n\n  back 0\n")
        self.refused("part p () number\n  out n\n  back 0\n")
        self.refused("lead n\n  back 0\n")
        self.refused("out n\n  back 0\n")

    def test_line_feeds(self):
        for _, text in CHANGES:
            if text:
                self.refused(text[:-1])
            self.refused(text + "\n")
            self.refused("\n" + text)
            self.refused(text + " ")
            self.refused(text + "x")
            if text:
                self.refused(text + text)
                self.refused(text.replace("\n", "\n\n", 1))
                self.refused(text.replace("\n", "\r\n", 1))
                self.refused(text.replace("\n", " \n", 1))
                self.refused(" " + text)

    def test_texts_of_what_would_be_no_change(self):
        for text in ["kind n\nbox n number = 1\n", "kind n\nkind n\n", "part p () number\n",
                     "part p () number\n  mark m\n  mark m\n  back 0\n", "part p () number\n  go 1\n",
                     "part p () number\n  mark m\n  back 0\npart q () number\n  mark m\n  back 0\n", "x\n", "# x\n",
                     "let x 1\n", "  back 0\n", "kind n a yes\n", "box b number = r0\n"]:
            self.refused(text)

    def test_sign_by_sign(self):
        for _, text in CHANGES:
            for other in tampered(text, " \n(),x1"):
                try:
                    told = read_change(other)
                except NoText:
                    continue
                self.assertIs(is_change(told), True)
                self.assertEqual(change_text(told), other)

    def test_bad_names_are_refused(self):
        for word in BAD_NAMES:
            for text in ("out {}\n", "kind {}\n", "lead {} f x\n", "lead n {} x\n", "lead n f x, {} y\n", "lead {} it\n"):
                # Only these have another reading: leads of a kind, of which b is a field.
                if (text, word) != ("lead {} it\n", "a b"):
                    self.refused(text.format(word))

    def test_things_that_are_no_texts(self):
        for thing in odd_things() + [0, 1, True, False, (), CHANGES[0][0], [""], ["out a\n"], ("out a\n",), {}, b"out a\n"]:
            self.refused(thing)

    def test_thousands_of_brackets(self):
        for many in (2000, 3000):
            for text in ["(" * many, ")" * many, "(" * many + ")" * many, "(not " * many,
                         "(not " * many + "x" + ")" * many]:
                self.refused(text)
                self.refused("out " + text + "\n")
                self.refused("lead b " + text + "\n")
                self.refused("lead n f " + text + "\n")
                self.refused("lead n f x, g " + text + "\n")
                self.refused("lead n f (empty " + text + ")\n")
            self.refused("lead b (empty " + "[" * many + "number" + "]" * many + ")\n")

    def test_behind_a_refusal_a_right_text_is_read(self):
        for bad in ["\n", "out", None, "out a\nout a\n", "lead n f " + "(" * 5000 + "\n", "lead b it\nlead a\n"]:
            for change, text in CHANGES:
                self.refused(bad)
                self.assertTrue(alike(read_change(text), change))


class Asked(unittest.TestCase):
    def test_asked_again_all_is_told_alike_and_nothing_changes(self):
        for change, text in CHANGES:
            kept = copy.deepcopy(change)
            self.assertEqual(change_text(change), change_text(change))
            self.assertTrue(alike(read_change(text), read_change(text)))
            self.assertTrue(alike(change, kept))
            self.assertEqual([list(things) for things in change], [list(things) for things in kept])

    def test_dicts_that_are_told_are_the_askers_own(self):
        for change, text in CHANGES:
            first, second = read_change(text), read_change(text)
            for one, other in zip(first[1:], second[1:]):
                self.assertIs(type(one), dict)
                self.assertIsNot(one, other)
                one.clear()
                one["other"] = ()
            self.assertTrue(alike(second, change))
            self.assertTrue(alike(read_change(text), change))


if __name__ == "__main__":
    unittest.main()
