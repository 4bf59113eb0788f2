"""Alike terms, points 2 and 30."""

import random
import unittest

from changewhile.errors import Stuck
from changewhile.forms import alike
from changewhile.reckoning import worth
from changewhile.terms import is_term, parts_of, read_term
from changewhile.values import alike_values
from tests.examples import TERMS

# Groups of texts of terms that are alike, each with each.
ALIKE = [
    ["(add x y)", "(add y x)", "(less x (less 0 y))", "(less (add (add y y) x) y)", "(add (add x 0) y)"],
    ["(add x (add y z))", "(add (add x y) z)", "(add (add z x) y)", "(less (add z (times 2 y)) (less y x))"],
    ["(times x y)", "(times y x)", "(times (times 1 y) x)", "(add (times x (less y 1)) x)"],
    ["(times x (times y z))", "(times (times z x) y)"],
    ["(times x (add y 3))", "(add (times 3 x) (times y x))", "(add (times x y) (add x (add x x)))"],
    ["(times (add x y) (less x y))", "(less (times x x) (times y y))"],
    ["(times (add x 1) (add x 1))", "(add (add (times x x) (times 2 x)) 1)"],
    ["(less x 1)", "(add x 999999999999)", "(less (add x 1) 2)", "(add (less x 2) 1)"],
    ["(less 0 x)", "(times x 999999999999)", "(less y (add x y))"],
    ["(times 500000000000 x)", "(less 0 (times x 500000000000))"],
    ["x", "(add x 0)", "(less x 0)", "(times 1 x)", "(less (add x y) y)", "(add (times 999999999999 y) (add y x))",
     "(less (times 3 x) (times 2 x))", "(pick yes x y)", "(pick no y x)", "(pick t x x)", "(pick t x (add 0 x))",
     "(at (list y x) 1 z)", "(at (list y z) 2 x)", "(at (empty number) i x)", "(at xs 60 x)",
     "(at (join (list y) (list x)) 1 z)", "(pick (same y y) x z)", "(at (list x) (less 5 5) y)",
     "(pick (not (not yes)) x z)", "(pick (under x 0) z x)", "(at (join (list x) xs) 0 z)",
     "(at (join (join (list y) (list x)) xs) 1 z)"],
    ["0", "(times 0 x)", "(less x x)", "(times (less x x) (field p f))", "(add 1 999999999999)",
     "(times 1000000 (times 1000000 y))", "(many (empty number))", "(less (many (list x)) 1)", "(times x (less 2 (add 1 1)))"],
    ["6", "(times 2 3)", "(add 1 (add 2 3))", "(less 3 999999999997)", "(pick yes 6 x)", "(at (list 5 6 7) 1 0)"],
    ["(field p f)", "(add 0 (field p f))", "(pick yes (field p f) x)", "(field (pick yes p q) f)",
     "(field (at (list p q) 0 q) f)"],
    ["(add #b (field p f))", "(add (field p f) #b)"],
    ["yes", "(same x x)", "(same (add x y) (add y x))", "(not no)", "(same 3 3)", "(same yes yes)", "(under 1 2)",
     "(same (list 1 2) (list 1 (add 1 1)))", "(both yes yes)", "(same (empty truth) (empty truth))", "(not (under x 0))",
     "(same (list (list 1) yes) (list (list 1) yes))", "(same (field p f) (field p f))", "(same (join xs (list x)) (join xs (list x)))",
     "(same (empty number) (join (empty number) (empty number)))", "(pick t yes yes)"],
    ["no", "(same 1 2)", "(same 1 yes)", "(same 0 no)", "(same yes no)", "(under 2 1)", "(under 2 2)", "(both no t)",
     "(both t no)", "(not (same x x))", "(same (list 1 2) (list 2 1))", "(same (list 1) (list 1 2))",
     "(same (list 1) (empty number))", "(under x 0)", "(under 999999999999 x)", "(same (list yes) (list 1))",
     "(same (list (list 1)) (list (list 2)))"],
    ["t", "(not (not t))", "(both yes t)", "(both t yes)", "(pick yes t u)", "(not (not (not (not t))))"],
    ["(not t)", "(not (not (not t)))", "(both (not t) yes)"],
    ["(same x y)", "(same y x)", "(same (add 0 y) x)", "(not (not (same x y)))"],
    ["(both t u)", "(both u t)", "(both (both yes u) t)"],
    ["(under x y)", "(under (add x 0) (times y 1))"],
    ["(many xs)", "(many (join xs (empty number)))", "(add (many xs) 0)"],
    ["3", "(many (list x y z))", "(many (join (list x) (list y z)))", "(many (list (list x) p t))",
     "(many (join (join (list x) (empty number)) (list y z)))"],
    ["(list x y)", "(join (list x) (list y))", "(list (add x 0) (pick yes y x))", "(join (empty number) (list x y))",
     "(join (list x y) (empty number))"],
    ["xs", "(join xs (empty number))", "(join (empty number) xs)", "(pick yes xs ys)", "(pick t xs xs)"],
    ["(pick t x y)", "(pick (not (not t)) x (add y 0))", "(pick (both yes t) x y)"],
    ["(at xs i x)", "(at xs (add i 0) x)", "(at (join xs (empty number)) i x)"],
    ["(empty number)", "(join (empty number) (empty number))"],
]

UNLIKE = [
    ("x", "y"), ("x", "#x"), ("x", "(add x 1)"), ("0", "no"), ("1", "yes"), ("1", "(list 1)"), ("(less x y)", "(less y x)"),
    ("(under x y)", "(under y x)"), ("(join xs ys)", "(join ys xs)"), ("(list x y)", "(list y x)"), ("(pick t x y)", "(pick t y x)"),
    ("(field p f)", "(field p g)"), ("(field p f)", "(field q f)"), ("#a", "#b"), ("(at xs i x)", "(at xs x i)"), ("t", "(not t)"),
    ("(times x x)", "x"), ("(times x x)", "(times 2 x)"), ("(times x y)", "(times x (times y y))"), ("(add x x)", "x"),
    ("(same x y)", "(same x z)"), ("(same x y)", "yes"), ("(same x y)", "no"), ("(both t u)", "t"), ("(many xs)", "(many ys)"),
    ("(times 2 x)", "(times 500000000002 x)"), ("(at (list x y) i z)", "x"), ("(at (list x y) 1 z)", "x"),
    ("(at (list x y) 2 z)", "y"), ("(at xs 59 x)", "x"), ("(at xs 0 x)", "x"), ("(join xs (list x))", "xs"), ("(under x 1)", "no"),
    ("(under 999999999998 x)", "no"), ("(not (same x y))", "(same x y)"), ("(pick t x y)", "x"), ("(list x)", "(list (list x))"),
    ("(many (list x y))", "(many (list x))"), ("(same (list x) (list y))", "no"),
    ("(same (list x) (list y))", "yes"), ("(same (list 1 x) (list 1 y))", "yes"), ("(same (list 1) xs)", "yes"),
    ("(at (join xs (list y)) 0 z)", "y"), ("(at (join (list x) xs) 1 z)", "z"), ("(many (join (list x) xs))", "1"), ("(same (list 1) xs)", "no"),
    ("(add (times x y) z)", "(times x (add y z))"), ("(less x 1)", "(add x 99999999999)"), ("(empty number)", "(list 0)"),
]


class Alike(unittest.TestCase):
    def told(self, one, other, wanted):
        for first, second in ((one, other), (other, one)):
            told = alike(first, second)
            self.assertIs(told, wanted, (first, second))
            self.assertIs(alike(first, second), wanted)

    def test_each_with_itself(self):
        for term, _ in TERMS:
            self.told(term, term, True)
            self.told(("list", term, ("number", 1)), ("list", term, read_term("(pick yes 1 2)")), True)
            self.told(("list", term, ("number", 1)), ("list", term, ("number", 2)), False)

    def test_groups_of_alike_terms(self):
        for group in ALIKE:
            for one in group:
                for other in group:
                    self.told(read_term(one), read_term(other), True)

    def test_terms_of_different_groups(self):
        for k, group in enumerate(ALIKE):
            for other in ALIKE[:k]:
                self.told(read_term(group[0]), read_term(other[0]), False)
                self.told(read_term(group[-1]), read_term(other[-1]), False)

    def test_unlike_terms(self):
        for one, other in UNLIKE:
            self.told(read_term(one), read_term(other), False)

    def test_each_within_the_others(self):
        around = ["(add {} 1)", "(less x {})", "(times {} (add {} 2))", "(at xs {} x)", "(list {} {})", "(pick t {} z)",
                  "(under {} 7)", "(same 4 {})", "(many (list {} (add w {})))", "(both t (same {} z))", "(not (under {} z))",
                  "(join xs (list {}))", "(field (at ps {} p) f)", "(at (list z {}) i {})"]
        numbers = [group for group in ALIKE if group[0] in ("(add x y)", "x", "0", "(times x (add y 3))", "3")]
        for group in numbers:
            for text in around:
                one, other = text.replace("{}", group[0]), text.replace("{}", group[-1])
                self.told(read_term(one), read_term(other), True)
                if "{} z)" in text or "{} 1)" in text:
                    self.told(read_term(one), read_term(text.replace("{}", "(add 5 q)")), False)

    def test_within_one_another_as_deep_as_terms_go(self):
        one, other = "x", "(add 0 x)"
        for left, right in [
                ("(add {} y)", "(add y {})"), ("(times {} 2)", "(add {} {})"), ("(at xs {} z)", "(at (join xs (empty number)) {} z)"),
                ("(list {})", "(join (empty number) (list {}))"), ("(same {} ys)", "(same ys {})"), ("(not {})", "(not (not (not {})))"),
                ("(both t {})", "(both {} t)"), ("(pick {} 1 w)", "(pick (both yes {}) 1 (add w 0))"),
                ("(less {} 1)", "(add {} 999999999999)"), ("(under 0 {})", "(under (times 0 z) {})")]:
            one, other = left.replace("{}", one), right.replace("{}", other)
            self.told(read_term(one), read_term(other), True)
            self.told(read_term(one), read_term(other.replace("(add 0 x)", "(add 1 x)")), False)

    def test_sixty_values_of_a_list(self):
        def eight(first):
            return ("list", *[("name", "ab"[first % 2] + "abcdefgh"[k]) for k in range(8)])

        joined = eight(0)
        for k in range(1, 7):
            joined = ("join", joined, eight(k))
        self.told(("many", joined), ("number", 56), True)
        more = ("join", joined, eight(7))
        self.told(("many", more), ("number", 60), True)
        self.told(more, ("join", more, ("name", "xs")), True)
        self.told(more, ("join", joined, ("join", eight(7), ("name", "xs"))), True)
        self.told(("at", more, ("number", 59), ("name", "x")), eight(7)[4], True)
        self.told(("at", more, ("number", 60), ("name", "x")), ("name", "x"), True)

    def test_three_hundred_products(self):
        product = ("number", 1)
        for k in range(8):
            product = ("times", product, ("add", ("name", "abcdefgh"[k]), ("box", "abcdefgh"[k])))
        other = ("number", 1)
        for k in range(8):
            other = ("times", ("add", ("box", "abcdefgh"[7 - k]), ("name", "abcdefgh"[7 - k])), other)
        self.told(product, other, True)
        self.told(product, ("add", other, ("number", 1)), False)
        self.told(("less", product, other), ("number", 0), True)


SORTS = {"add": "nnn", "less": "nnn", "times": "nnn", "many": "nl", "under": "tnn", "both": "ttt", "not": "tt", "join": "lll",
         "field": "nr"}


class Drawn(unittest.TestCase):
    """Terms that are drawn, reckoned in many holdings."""

    def setUp(self):
        self.chance = random.Random(30)

    def term(self, sort, depth):
        draw = self.chance.choice
        if depth == 0 or self.chance.random() < 0.12:
            return draw({"n": [("number", draw((0, 1, 2, 3, 59, 60, 10 ** 12 - 1))), ("name", "a"), ("name", "b"), ("box", "c"),
                               ("field", ("name", "p"), "f")],
                         "t": [("truth", True), ("truth", False), ("name", "t"), ("box", "u")],
                         "l": [("empty", ("number",)), ("name", "x"), ("box", "y"), ("list", ("number", 1))],
                         "r": [("name", "p"), ("name", "q")]}[sort])
        words = {"n": ("add", "less", "times", "times", "many", "pick", "at", "field"),
                 "t": ("under", "same", "same", "both", "not", "pick"), "l": ("join", "list", "pick"), "r": ("pick", "at")}
        word = draw(words[sort])
        if word == "pick":
            return (word, self.term("t", depth - 1), self.term(sort, depth - 1), self.term(sort, depth - 1))
        if word == "at":
            elements = [self.term(sort, depth - 1) for _ in range(2)]
            values = self.term("l", depth - 1) if sort == "n" else ("list", *elements)
            return (word, values, self.term("n", depth - 1), self.term(sort, depth - 1))
        if word == "same":
            other = draw("ntlr")
            return (word, self.term(other, depth - 1), self.term(other, depth - 1))
        if word == "list":
            return (word, *[self.term("n", depth - 1) for _ in range(self.chance.randrange(1, 4))])
        made = (word, *[self.term(one, depth - 1) for one in SORTS[word][1:]])
        return made + ("f",) if word == "field" else made

    def otherwise(self, term):
        """The term with one thing in it made otherwise."""
        parts = parts_of(term)
        if parts and self.chance.random() < 0.8:
            k = self.chance.randrange(len(parts))
            parts[k] = self.otherwise(parts[k])
            if self.chance.random() < 0.2:
                parts = parts[::-1]
            return (term[0], *parts, "f") if term[0] == "field" else (term[0], *parts)
        swapped = {"add": "less", "less": "add", "times": "add", "under": "same", "both": "same"}
        if term[0] in swapped:
            return (swapped[term[0]], *parts)
        return self.chance.choice((("number", self.chance.randrange(3)), ("name", self.chance.choice("abtx")), term))

    def worths(self, term, holdings):
        told = []
        for held, boxes, records in holdings:
            try:
                told.append(worth(term, held, boxes, records))
            except Stuck:
                told.append(None)
        return told

    def holdings(self):
        chance = self.chance
        found = []
        for _ in range(12):
            number = lambda: chance.choice((0, 0, 1, 1, 2, 3, 59, 60, 10 ** 12 - 1, 5 * 10 ** 11))
            values = lambda: tuple(number() for _ in range(chance.choice((0, 1, 2, 3, 58, 59, 60))))
            records = {"r0": ("n", (("f", number()),)), "r1": ("n", (("f", number()),))}
            found.append(({"a": number(), "b": number(), "t": chance.random() < 0.5, "x": values(), "p": "r0",
                           "q": chance.choice(("r0", "r1"))},
                          {"c": number(), "u": chance.random() < 0.5, "y": values()}, records))
        # Some in which a name is of another sort.
        held, boxes, records = found[0]
        found.append(({**held, "a": True, "t": 1}, {**boxes, "c": False}, records))
        found.append(({**held, "x": 3, "b": (1, 2)}, {**boxes, "u": 0}, records))
        return found

    def not_unlike(self, one, other, holdings):
        told = alike(one, other)
        self.assertIs(told, alike(other, one))
        if told:
            for first, second in zip(self.worths(one, holdings), self.worths(other, holdings)):
                if first is not None and second is not None:
                    self.assertTrue(alike_values(first, second), (one, other, first, second))
        return told

    def test_never_of_unlike_worths(self):
        many = 0
        for _ in range(2500):
            term = self.term(self.chance.choice("nntlr"), self.chance.randrange(1, 5))
            other = self.otherwise(term)
            if self.chance.random() < 0.3:
                other = self.otherwise(other)
            if is_term(other):
                many += self.not_unlike(term, other, self.holdings())
        self.assertGreater(many, 300)

    def test_groups_of_alike_terms_have_one_worth(self):
        named = {"z": 4, "i": 1, "w": 9, "u": True, "ys": (4,), "xs": (7, 8), "ps": ("r0",)}
        for group in ALIKE:
            for held, boxes, records in self.holdings():
                held = {**held, **named, "x": held["a"], "y": held["b"]}
                told = self.worths(read_term(group[0]), [(held, {**boxes, "b": 3}, records)])
                for text in group:
                    other = self.worths(read_term(text), [(held, {**boxes, "b": 3}, records)])
                    if told[0] is not None and other[0] is not None:
                        self.assertTrue(alike_values(told[0], other[0]), text)

    def test_many_that_come_to_little(self):
        groups = {}
        for _ in range(2500):
            term = self.term("n", 2)
            for known in groups:
                if alike(known, term):
                    groups[known].append(term)
                    break
            else:
                if len(groups) < 60:
                    groups[term] = []
        holdings = self.holdings()
        for known, group in groups.items():
            for term in group[:20]:
                self.not_unlike(known, term, holdings)


if __name__ == "__main__":
    unittest.main()
