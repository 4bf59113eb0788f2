"""What terms are worth, points 2, 5 and 15."""

import copy
import itertools
import unittest

from changewhile import errors
from changewhile.errors import ChangeError, Stuck
from changewhile.reckoning import worth
from changewhile.terms import read_term
from tests.examples import TERMS, alike, deep

MOST = 10 ** 12 - 1
HELD = {"n": 5, "m": 7, "big": MOST, "t": True, "f": False, "xs": (3, 1, 2), "none": (), "ts": (True, False),
        "mixed": (1, True, ("r0",), "r1"), "full": tuple(range(60)), "p": "r0", "q": "r1", "dead": "r2",
        "away": "r9", "nest": ((1, 2), (), (3,)), "it": 4}
BOXES = {"count": 8, "flag": False, "ones": (1, 1), "ref": "r1", "gone": "r2"}
RECORDS = {"r0": ("pair", (("a", 1), ("b", "r1"))), "r1": ("pair", (("a", True), ("b", "r0"))), "r2": ("", ()),
           "r3": ("bare", ()), "r4": ("node", (("a", (1, (2, "r0"))),))}

# A name for each sort of values, and what the sorts are called.
SORTS = {"number": ["n", "big"], "truth": ["t", "f"], "list": ["xs", "none", "mixed"], "ref": ["p", "dead", "away"]}
WANTED = {"add": ["number", "number"], "less": ["number", "number"], "times": ["number", "number"],
          "under": ["number", "number"], "same": [None, None], "both": ["truth", "truth"], "join": ["list", "list"],
          "not": ["truth"], "many": ["list"], "pick": ["truth", None, None], "at": ["list", "number", None],
          "list": [None, None, None]}


class Worth(unittest.TestCase):
    def told(self, text, value):
        found = worth(read_term(text), HELD, BOXES, RECORDS)
        self.assertTrue(alike(found, value), (text, found))

    def stuck(self, term, held=None, boxes=None, records=None):
        term = read_term(term) if isinstance(term, str) else term
        with self.assertRaises(Stuck, msg=term) as caught:
            worth(term, HELD if held is None else held, BOXES if boxes is None else boxes,
                  RECORDS if records is None else records)
        self.assertEqual((caught.exception.name, caught.exception.row), ("", -1))
        self.assertIs(type(caught.exception.row), int)

    def test_leaves(self):
        for text, value in [("0", 0), ("999999999999", MOST), ("yes", True), ("no", False), ("n", 5), ("f", False),
                            ("xs", (3, 1, 2)), ("mixed", (1, True, ("r0",), "r1")), ("p", "r0"), ("away", "r9"),
                            ("#count", 8), ("#flag", False), ("#ones", (1, 1)), ("#ref", "r1"), ("(empty number)", ()),
                            ("(empty [[pair]])", ()), ("(empty gone)", ())]:
            self.told(text, value)

    def test_numbers_come_round(self):
        for text, value in [("(add 1 2)", 3), ("(add n m)", 12), ("(add big 0)", MOST), ("(add big 1)", 0),
                            ("(add 1 big)", 0), ("(add big big)", MOST - 1), ("(less 5 3)", 2), ("(less 3 3)", 0),
                            ("(less 3 5)", MOST - 1), ("(less 0 1)", MOST), ("(less 0 big)", 1), ("(less big 0)", MOST),
                            ("(less 0 0)", 0), ("(times 3 4)", 12), ("(times 0 big)", 0), ("(times big big)", 1),
                            ("(times 1000000 1000000)", 0), ("(times 1000001 1000001)", 2000001),
                            ("(times 2 500000000000)", 0), ("(times 2 big)", MOST - 1)]:
            self.told(text, value)

    def test_under(self):
        for text, value in [("(under 1 2)", True), ("(under 2 1)", False), ("(under 2 2)", False), ("(under 0 0)", False),
                            ("(under 0 big)", True), ("(under big 0)", False), ("(under n m)", True)]:
            self.told(text, value)

    def test_truths(self):
        for a, b in itertools.product((True, False), repeat=2):
            word = {True: "yes", False: "no"}
            self.told("(both " + word[a] + " " + word[b] + ")", a and b)
            self.told("(not " + word[a] + ")", not a)
        self.told("(both t t)", True)
        self.told("(both t f)", False)
        self.told("(not #flag)", True)

    def test_same(self):
        values = [0, 1, 2, True, False, (), (0,), (1,), (True,), (False,), ("r0",), (1, True), (True, 1), (1, 1),
                  ((),), ((1,),), ((True,),), "r0", "r1", "r10", (("r0",), 1), (("r1",), 1), (1, 2, 3), (1, 2)]
        for a, b in itertools.product(values, repeat=2):
            found = worth(("same", ("name", "a"), ("name", "b")), {"a": a, "b": copy.deepcopy(b)}, {}, {})
            self.assertIs(found, alike(a, b), (a, b))

    def test_same_looks_at_no_records(self):
        self.told("(same p p)", True)
        self.told("(same p q)", False)
        self.told("(same dead dead)", True)
        self.told("(same away away)", True)
        self.told("(same away p)", False)
        self.told("(same (field p b) q)", True)
        self.told("(same (field q b) q)", False)

    def test_same_of_unlike_sorts(self):
        for a, b in itertools.permutations(["0", "no", "none", "p"], 2):
            self.told("(same " + a + " " + b + ")", False)
        self.told("(same 1 yes)", False)
        self.told("(same (list 1) (list yes))", False)

    def test_lists(self):
        for text, value in [("(many xs)", 3), ("(many none)", 0), ("(many full)", 60), ("(many mixed)", 4),
                            ("(list 1)", (1,)), ("(list 1 yes p xs)", (1, True, "r0", (3, 1, 2))),
                            ("(list 1 2 3 4 5 6 7 8)", (1, 2, 3, 4, 5, 6, 7, 8)), ("(list none none)", ((), ())),
                            ("(join xs xs)", (3, 1, 2, 3, 1, 2)), ("(join none xs)", (3, 1, 2)),
                            ("(join xs none)", (3, 1, 2)), ("(join none none)", ()),
                            ("(join xs ts)", (3, 1, 2, True, False)), ("(join (list 1) (list yes))", (1, True))]:
            self.told(text, value)

    def test_join_keeps_the_first_sixty(self):
        for many in (0, 1, 30, 59, 60):
            for more in (0, 1, 30, 31, 59, 60):
                one, other = tuple(range(many)), tuple(range(100, 100 + more))
                found = worth(("join", ("name", "a"), ("name", "b")), {"a": one, "b": other}, {}, {})
                self.assertEqual(found, (one + other)[:60])
        self.told("(many (join full full))", 60)
        self.told("(join full xs)", tuple(range(60)))
        self.told("(join xs full)", (3, 1, 2) + tuple(range(57)))

    def test_pick(self):
        for text, value in [("(pick yes 1 2)", 1), ("(pick no 1 2)", 2), ("(pick t xs n)", (3, 1, 2)),
                            ("(pick f xs n)", 5), ("(pick t yes p)", True), ("(pick f yes p)", "r0"),
                            ("(pick (under n m) p q)", "r0"), ("(pick no 1 (pick yes 2 3))", 2)]:
            self.told(text, value)

    def test_at(self):
        for text, value in [("(at xs 0 9)", 3), ("(at xs 1 9)", 1), ("(at xs 2 9)", 2), ("(at xs 3 9)", 9),
                            ("(at xs big 9)", 9), ("(at none 0 9)", 9), ("(at full 59 yes)", 59),
                            ("(at full 60 yes)", True), ("(at xs 0 yes)", 3), ("(at xs 5 p)", "r0"),
                            ("(at mixed 2 0)", ("r0",)), ("(at mixed 1 0)", True), ("(at nest 0 0)", (1, 2)),
                            ("(at (at nest 2 none) 0 9)", 3), ("(at xs (less 0 1) 9)", 9)]:
            self.told(text, value)

    def test_fields(self):
        for text, value in [("(field p a)", 1), ("(field p b)", "r1"), ("(field q a)", True), ("(field #ref b)", "r0"),
                            ("(field (field p b) a)", True), ("(field (field (field p b) b) a)", 1),
                            ("(field (at mixed 3 0) a)", True), ("(field (at (at mixed 2 none) 0 0) a)", 1)]:
            self.told(text, value)
        self.assertTrue(alike(worth(read_term("(field x a)"), {"x": "r4"}, {}, RECORDS), (1, (2, "r0"))))

    def test_what_lacks(self):
        for text in ["lacking", "count", "#lacking", "#n", "(field p c)", "(field p f)", "(field away a)",
                     "(field (field p b) c)", "(field dead a)", "(field #gone a)", "(add 1 lacking)", "(not #lacking)",
                     "(list 1 2 lacking)", "(field lacking a)", "(field x a)"]:
            self.stuck(text)
        self.stuck("n", {}, {}, {})
        self.stuck("#count", HELD, {}, RECORDS)
        self.stuck("(field p a)", HELD, BOXES, {})
        self.stuck("(field x a)", {"x": "r3"})
        self.stuck("(field x b)", {"x": "r4"})

    def test_parts_of_each_sort_in_each_place(self):
        for word, wanted in WANTED.items():
            right = [SORTS[sort or "number"][0] for sort in wanted]
            worth((word, *[("name", name) for name in right]), HELD, BOXES, RECORDS)
            for at, (sort, names) in itertools.product(range(len(wanted)), SORTS.items()):
                for name in names:
                    names_now = right[:at] + [name] + right[at + 1:]
                    term = (word, *[("name", one) for one in names_now])
                    if wanted[at] in (None, sort):
                        worth(term, HELD, BOXES, RECORDS)
                    else:
                        self.stuck(term)
        for name in ("n", "t", "f", "xs", "none"):
            self.stuck(("field", ("name", name), "a"))

    def test_all_parts_are_reckoned(self):
        for bad in ["lacking", "#lacking", "(field dead a)", "(not 1)", "(add 1 yes)", "(many n)", "(pick 1 2 3)"]:
            for text in ["(pick yes 1 {})", "(pick no {} 1)", "(pick {} 1 1)", "(at xs 0 {})", "(at xs 9 {})",
                         "(at xs {} 1)", "(at none 0 {})", "(both no {})", "(both {} no)", "(both yes {})",
                         "(same {0} {0})", "(times 0 {})", "(under {} 1)", "(join none {})", "(list {})",
                         "(list 1 2 3 4 5 6 7 {})", "(many (list {}))", "(pick yes 1 (pick no 1 (list {})))",
                         "(at (list 1 {}) 0 2)", "(not {})", "(less 1 {})", "(field {} a)"]:
                self.stuck(text.format(bad))

    def test_kinds_are_not_looked_at(self):
        for text, value in [("(same 1 xs)", False), ("(pick yes 1 xs)", 1), ("(at xs 9 yes)", True),
                            ("(join xs (list yes p))", (3, 1, 2, True, "r0")), ("(list 1 yes)", (1, True)),
                            ("(many (list 1 yes p))", 3), ("(same (empty number) (empty truth))", True),
                            ("(at (list 1 yes) 1 p)", True)]:
            self.told(text, value)

    def test_records_are_not_looked_at_where_no_field_is_reckoned(self):
        for text, value in [("dead", "r2"), ("away", "r9"), ("(list away dead)", ("r9", "r2")),
                            ("(at (list dead) 0 p)", "r2"), ("(pick yes dead p)", "r2"), ("#gone", "r2")]:
            self.told(text, value)

    def test_terms_twelve_deep_and_far_deeper(self):
        for depth in (12, 13, 50, 700):
            term = deep(depth, ("name", "n"), lambda one: ("add", one, ("number", 1)))
            self.assertEqual(worth(term, HELD, {}, {}), 5 + depth)
            term = deep(depth, ("name", "none"), lambda one: ("list", one))
            self.assertEqual(worth(("many", term), HELD, {}, {}), 1)
            self.stuck(deep(depth, ("name", "lacking"), lambda one: ("not", one)))

    def test_numbers_by_another_reckoning(self):
        numbers = [0, 1, 2, 999, 10 ** 6, 10 ** 11, 5 * 10 ** 11, MOST - 1, MOST]
        for a, b in itertools.product(numbers, repeat=2):
            held = {"a": a, "b": b}
            for word, value in [("add", a + b), ("less", a - b), ("times", a * b)]:
                found = worth((word, ("name", "a"), ("name", "b")), held, {}, {})
                self.assertTrue(alike(found, (value + 10 ** 36) % 10 ** 12))

    def test_the_error_is_a_value_error_and_none_of_the_others(self):
        with self.assertRaises(ValueError) as caught:
            worth(("name", "x"), {}, {}, {})
        self.assertIs(type(caught.exception), Stuck)
        self.assertIsInstance(caught.exception, ChangeError)
        for other in ("NoText", "NotRight", "NoFit", "NoLead", "NotNow"):
            self.assertNotIsInstance(caught.exception, getattr(errors, other))

    def test_asked_again_all_is_told_alike_and_nothing_changes(self):
        before = copy.deepcopy((HELD, BOXES, RECORDS))
        for term, _ in TERMS:
            told = []
            for _ in range(2):
                try:
                    told.append(worth(term, HELD, BOXES, RECORDS))
                except Stuck as error:
                    told.append((error.name, error.row))
            self.assertTrue(alike(told[0], told[1]), term)
        self.assertTrue(alike((HELD, BOXES, RECORDS), before))
        self.assertEqual([list(things) for things in (HELD, BOXES, RECORDS)], [list(things) for things in before])


if __name__ == "__main__":
    unittest.main()
