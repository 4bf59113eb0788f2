"""The kinds of terms, and rows that are right, points 2, 11 and 12."""

import copy
import itertools
import unittest

from changewhile.kinding import is_right, is_there, kind_of, leaves
from changewhile.kinds import kind_text, read_kind
from changewhile.programtexts import read_program
from changewhile.rows import read_row
from changewhile.terms import is_term, read_term
from tests.examples import NUMBER, TERMS, TRUTH, alike, deep
from tests.making import Maker

PROGRAM = read_program("""\
kind bare
kind lost f gone, g [gone], h number
kind node f number, g node, h [truth]
kind pair a number, b [pair]
box away gone = 0
box aways [gone] = []
box count number = 5
box flag truth = yes
box nodes [node] = []
box ones [number] = [1]
part bad (x gone) gone
  go 0
part made () node
  go 0
part main () number
  back 0
part nums () [number]
  back (empty number)
part two (x number, y [truth]) truth
  back yes
""")

NOTHING = ({}, {}, {})


def held(**kinds):
    """A holding of names with the texts of their kinds."""
    return tuple(sorted((name, read_kind(text)) for name, text in kinds.items()))


HOLDING = held(n="number", t="truth", xs="[number]", ts="[truth]", xss="[[number]]", p="pair", q="node", e="bare",
               ps="[pair]", qs="[node]", l="lost", g="gone", gs="[gone]", gss="[[gone]]")

# The kind of each held name that has one; by these all parts of terms are tried out.
SAMPLES = [(("name", name), kind) for name, kind in HOLDING if "g" not in name]

RULES = {
    "add": lambda a, b: NUMBER if a == b == NUMBER else None,
    "less": lambda a, b: NUMBER if a == b == NUMBER else None,
    "times": lambda a, b: NUMBER if a == b == NUMBER else None,
    "under": lambda a, b: TRUTH if a == b == NUMBER else None,
    "same": lambda a, b: TRUTH if a == b else None,
    "both": lambda a, b: TRUTH if a == b == TRUTH else None,
    "join": lambda a, b: a if a == b and a[0] == "list" else None,
    "not": lambda a: TRUTH if a == TRUTH else None,
    "many": lambda a: NUMBER if a[0] == "list" else None,
    "pick": lambda a, b, c: b if a == TRUTH and b == c else None,
    "at": lambda a, b, c: c if a == ("list", c) and b == NUMBER else None,
}

# Terms that have none, whatever word they stand in.
KINDLESS = [("name", "lacking"), ("name", "g"), ("name", "gs"), ("name", "gss"), ("box", "lacking"), ("box", "away"),
            ("box", "aways"), ("box", "main"), ("empty", ("record", "gone")), ("empty", ("list", ("record", "gone"))),
            ("field", ("name", "l"), "f"), ("field", ("name", "l"), "g"), ("field", ("name", "q"), "a"),
            ("field", ("name", "n"), "f"), ("field", ("name", "g"), "f"), ("add", ("name", "n"), ("name", "t")),
            ("list", ("name", "n"), ("name", "t")), ("not", ("name", "n"))]


class There(unittest.TestCase):
    def test_kinds_within_up_to_eight_lists(self):
        for bottom, told in [("number", True), ("truth", True), ("pair", True), ("bare", True), ("lost", True),
                             ("gone", False), ("count", False), ("main", False), ("a", False)]:
            for depth in range(9):
                kind = read_kind("[" * depth + bottom + "]" * depth)
                self.assertIs(is_there(kind, PROGRAM), told, kind)

    def test_in_a_program_without_kinds(self):
        for depth in range(9):
            self.assertIs(is_there(deep(depth, NUMBER, lambda kind: ("list", kind)), NOTHING), True)
            self.assertIs(is_there(deep(depth, TRUTH, lambda kind: ("list", kind)), NOTHING), True)
            self.assertIs(is_there(deep(depth, ("record", "pair"), lambda kind: ("list", kind)), NOTHING), False)


class Kinds(unittest.TestCase):
    def told(self, text, kind, holding=HOLDING, program=PROGRAM):
        found = kind_of(read_term(text), holding, program)
        self.assertEqual(found and kind_text(found), kind, text)

    def test_leaves(self):
        for text, kind in [("0", "number"), ("999999999999", "number"), ("yes", "truth"), ("no", "truth"),
                           ("n", "number"), ("t", "truth"), ("p", "pair"), ("xss", "[[number]]"), ("qs", "[node]"),
                           ("lacking", None), ("g", None), ("gs", None), ("gss", None), ("count", None),
                           ("#count", "number"), ("#flag", "truth"), ("#ones", "[number]"), ("#nodes", "[node]"),
                           ("#lacking", None), ("#away", None), ("#aways", None), ("#n", None), ("#main", None),
                           ("#pair", None), ("(empty number)", "[number]"), ("(empty [truth])", "[[truth]]"),
                           ("(empty pair)", "[pair]"), ("(empty gone)", None), ("(empty [[gone]])", None),
                           ("(empty count)", None), ("(empty [[[[[[[bare]]]]]]])", "[[[[[[[[bare]]]]]]]]")]:
            self.told(text, kind)

    def test_each_word_with_parts_of_all_kinds(self):
        for word, rule in RULES.items():
            right = 0
            for parts in itertools.product(SAMPLES, repeat=rule.__code__.co_argcount):
                term = (word, *[part for part, _ in parts])
                wanted = rule(*[kind for _, kind in parts])
                found = kind_of(term, HOLDING, PROGRAM)
                self.assertTrue(alike(found, wanted), (term, found))
                right += found is not None
            self.assertGreater(right, 0, word)

    def test_lists_of_terms(self):
        for many in range(1, 9):
            for part, kind in SAMPLES:
                self.assertEqual(kind_of(("list", *[part] * many), HOLDING, PROGRAM), ("list", kind))
                for other, unlike in SAMPLES[::3]:
                    for at in (0, many // 2, many - 1):
                        parts = [part] * many
                        parts[at] = other
                        wanted = ("list", unlike) if many == 1 or unlike == kind else None
                        self.assertEqual(kind_of(("list", *parts), HOLDING, PROGRAM), wanted)

    def test_fields(self):
        for text, kind in [("(field p a)", "number"), ("(field p b)", "[pair]"), ("(field q f)", "number"),
                           ("(field q g)", "node"), ("(field q h)", "[truth]"), ("(field (field q g) f)", "number"),
                           ("(field (field (field q g) g) h)", "[truth]"), ("(field l h)", "number"),
                           ("(field (at qs 0 q) f)", "number"), ("(field (at #nodes 0 q) g)", "node"),
                           ("(field p c)", None), ("(field q a)", None), ("(field e a)", None), ("(field l f)", None),
                           ("(field l g)", None), ("(field g f)", None), ("(field n f)", None), ("(field ps a)", None),
                           ("(field t f)", None), ("(field lacking f)", None), ("(field #away f)", None),
                           ("(field (field l f) a)", None), ("(field p pair)", None), ("(field 0 a)", None)]:
            self.told(text, kind)

    def test_same_of_truths_lists_and_records(self):
        for text, kind in [("(same t t)", "truth"), ("(same yes t)", "truth"), ("(same xs (empty number))", "truth"),
                           ("(same p p)", "truth"), ("(same q (field q g))", "truth"), ("(same e e)", "truth"),
                           ("(same xss (list xs))", "truth"), ("(same p q)", None), ("(same xs ts)", None),
                           ("(same xs xss)", None), ("(same n t)", None), ("(same 1 yes)", None), ("(same g g)", None),
                           ("(same (empty number) (empty truth))", None), ("(same #away #away)", None)]:
            self.told(text, kind)

    def test_a_part_without_a_kind_in_each_place_of_each_word(self):
        right = {"add": "nn", "less": "nn", "times": "nn", "under": "nn", "same": "nn", "both": "tt", "not": "t",
                 "many": ["xs"], "join": ["xs", "xs"], "pick": "tnn", "at": ["xs", "n", "n"], "field": "p",
                 "list": "nnnnnnnn"}
        for word, names in right.items():
            behind = ("a",) if word == "field" else ()
            parts = [("name", name) for name in names]
            self.assertIsNotNone(kind_of((word, *parts, *behind), HOLDING, PROGRAM), word)
            for at, bad in itertools.product(range(len(parts)), KINDLESS):
                wrong = parts[:at] + [bad] + parts[at + 1:]
                self.assertIsNone(kind_of((word, *wrong, *behind), HOLDING, PROGRAM), (word, at, bad))

    def test_two_parts_without_kinds_are_not_of_one_kind(self):
        for bad in KINDLESS:
            for term in [("same", bad, bad), ("join", bad, bad), ("pick", ("truth", True), bad, bad),
                         ("list", bad), ("list", bad, bad), ("at", ("list", bad), ("number", 0), bad)]:
                self.assertIsNone(kind_of(term, HOLDING, PROGRAM), term)

    def test_terms_ten_deep_of_which_one_part_goes_wrong(self):
        wraps = [lambda term: ("add", term, ("number", 1)), lambda term: ("times", ("name", "n"), term),
                 lambda term: ("pick", ("name", "t"), term, ("number", 0)),
                 lambda term: ("many", ("list", ("under", term, ("name", "n")))),
                 lambda term: ("at", ("name", "xs"), ("number", 0), term)]
        for wrap in wraps:
            for depth in range(1, 11):
                self.assertEqual(kind_of(deep(depth, ("name", "n"), wrap), HOLDING, PROGRAM), NUMBER)
                for bad in [*KINDLESS, ("name", "t"), ("name", "p"), ("name", "xs"), ("truth", True)]:
                    self.assertIsNone(kind_of(deep(depth, bad, wrap), HOLDING, PROGRAM))

    def test_terms_somewhat_deeper_and_far_deeper(self):
        for depth in (11, 12, 20, 700):
            self.assertEqual(kind_of(deep(depth, ("name", "n"), lambda term: ("add", term, term) if depth < 13
                                          else ("less", term, ("number", 1))), HOLDING, PROGRAM), NUMBER)
            self.assertEqual(kind_of(deep(depth, ("truth", True), lambda term: ("not", term)), (), NOTHING), TRUTH)

    def test_all_the_terms_of_the_examples(self):
        for term, _ in TERMS:
            found = kind_of(term, HOLDING, PROGRAM)
            self.assertTrue(found is None or is_there(found, PROGRAM))

    def test_with_nothing_held_and_nothing_there(self):
        for text, kind in [("1", "number"), ("yes", "truth"), ("(add 1 2)", "number"), ("(list yes no)", "[truth]"),
                           ("(empty [truth])", "[[truth]]"), ("(at (list 1 2) 0 1)", "number"), ("x", None),
                           ("#b", None), ("(empty pair)", None), ("(field x f)", None), ("(many (empty n))", None)]:
            self.told(text, kind, (), NOTHING)

    def test_the_kinds_of_made_terms(self):
        for seed in range(30):
            maker = Maker(seed)
            program = maker.program()
            holding = tuple(sorted((name, maker.kind()) for name in "abcdef"))
            for _ in range(10):
                kind = maker.kind()
                term = maker.term(kind, dict(holding), 4)
                if term:
                    self.assertTrue(is_term(term))
                    self.assertEqual(kind_of(term, holding, program), kind)


class Right(unittest.TestCase):
    def told(self, wanted, rows, part="main", holding=HOLDING):
        for text in rows:
            self.assertIs(is_right(read_row(text), holding, PROGRAM, PROGRAM[2][part]), wanted, text)

    def test_let(self):
        self.told(True, ["let x 1", "let n yes", "let x n", "let x p", "let x xss",
                         "let g 1", "let x (list p p)", "let x #nodes", "let count 1"])
        self.told(False, ["let x lacking", "let x g", "let x gss", "let g g", "let x #lacking", "let x #away",
                          "let x (empty gone)", "let x (add n t)", "let x (field p f)", "let lacking lacking"])

    def test_put(self):
        self.told(True, ["put count 1", "put count n", "put flag t", "put ones xs", "put ones (empty number)",
                         "put nodes (list q)", "put nodes qs", "put count (add #count 1)"])
        self.told(False, ["put count yes", "put count xs", "put count t", "put flag n", "put ones ts", "put ones n",
                          "put nodes ps", "put nodes q", "put lacking 1", "put n n", "put main 1", "put away g",
                          "put away 1", "put aways (empty gone)", "put aways gs", "put aways xs", "put count lacking",
                          "put count (add n t)", "put away #away", "put aways #aways"])

    def test_set(self):
        self.told(True, ["set p a 1", "set p a n", "set p b ps", "set p b (list p)", "set q f 1", "set q g q",
                         "set q g (field q g)", "set q h ts", "set (field q g) f 1", "set (at qs 0 q) f n",
                         "set l h 1"])
        self.told(False, ["set p a yes", "set p a p", "set p b p", "set p b qs", "set q g p", "set q h xs", "set q h t",
                          "set p c 1", "set p f 1", "set e a 1", "set n a 1", "set t a 1", "set ps a 1", "set xs a 1",
                          "set lacking a 1", "set g a 1", "set l f g", "set l f 1", "set l g gs",
                          "set l g (empty gone)", "set p a lacking", "set p b gs", "set l h yes", "set #away a 1",
                          "set p a (field l f)", "set 1 a 1", "set l f (field l f)", "set g f g"])

    def test_new(self):
        self.told(True, ["new x pair a 1, b ps", "new x pair a n, b (empty pair)", "new x bare", "new bare bare",
                         "new p node f 1, g q, h ts", "new g bare"])
        self.told(False, ["new x gone", "new x gone a 1", "new x count", "new x main", "new x pair", "new x pair a 1",
                          "new x pair b ps", "new x pair a 1, b ps, c 1", "new x pair a 1, c ps", "new x pair a 1, bb ps",
                          "new x pair aa 1, b ps", "new x bare a 1", "new x node f 1, g q", "new x node f 1, h ts",
                          "new x pair a yes, b ps", "new x pair a 1, b xs", "new x pair a 1, b p",
                          "new x pair a lacking, b ps", "new x pair a 1, b gs", "new x node f 1, g p, h ts",
                          "new x node f 1, g q, h xs", "new x lost f g, g gs, h 1", "new x lost f 1, g (empty gone), h 1"])

    def test_call(self):
        self.told(True, ["call x main", "call main main", "call x two 1 ts", "call x two n (empty truth)",
                         "call x nums", "call x made", "call n made"])
        self.told(False, ["call x lacking", "call x lacking 1", "call x pair", "call x count", "call x main 1",
                          "call x two", "call x two 1", "call x two 1 ts ts", "call x two ts 1", "call x two yes ts",
                          "call x two 1 xs", "call x two lacking ts", "call x two 1 gs", "call x bad g", "call x bad 1",
                          "call x bad", "call x two 1 t", "call x two p ts"])

    def test_a_call_of_a_part_that_gives_what_is_not_there_is_right(self):
        program = ({}, {}, {"p": ((), ("record", "gone"), (("go", 0),))})
        self.assertIs(is_right(read_row("call x p"), (), program, program[2]["p"]), True)

    def test_tell(self):
        self.told(True, ["tell 0", "tell n", "tell #count", "tell (many ps)", "tell (field p a)"])
        self.told(False, ["tell yes", "tell t", "tell xs", "tell p", "tell lacking", "tell g", "tell (many gs)",
                          "tell #away", "tell (add n t)", "tell #flag"])

    def test_unless(self):
        self.told(True, ["unless yes 0", "unless t 3", "unless #flag 0", "unless (under n 1) 0", "unless (same p p) 0"])
        self.told(False, ["unless 1 0", "unless n 3", "unless ts 0", "unless p 0", "unless lacking 0", "unless g 0",
                          "unless (same p q) 0", "unless (same g g) 0", "unless #count 0"])

    def test_back(self):
        self.told(True, ["back 0", "back n", "back #count"])
        self.told(False, ["back yes", "back xs", "back p", "back lacking", "back g", "back #away"])
        self.told(True, ["back q", "back (field q g)", "back (at qs 0 q)"], "made")
        self.told(False, ["back p", "back qs", "back 0", "back lacking", "back g"], "made")
        self.told(True, ["back xs", "back #ones", "back (empty number)"], "nums")
        self.told(False, ["back ts", "back 0", "back (empty truth)", "back gs"], "nums")
        self.told(True, ["back yes", "back t"], "two")
        self.told(False, ["back g", "back 0", "back lacking", "back #away", "back p"], "bad")

    def test_back_of_a_part_that_is_handed_in(self):
        other = ((("x", NUMBER),), ("list", TRUTH), (("back", ("name", "x")),))
        self.assertIs(is_right(read_row("back ts"), HOLDING, PROGRAM, other), True)
        self.assertIs(is_right(read_row("back n"), HOLDING, PROGRAM, other), False)
        for program in (NOTHING, PROGRAM):
            self.assertIs(is_right(read_row("back (empty truth)"), (), program, other), True)
            self.assertIs(is_right(read_row("back 0"), (), program, other), False)

    def test_mark_and_go(self):
        self.told(True, ["mark m", "mark n", "go 0", "go 7", "go 99"])
        self.told(True, ["mark m", "go 0"], "bad", ())

    def test_with_nothing_held_and_nothing_there(self):
        part = PROGRAM[2]["main"]
        for text, wanted in [("let x 1", True), ("let x y", False), ("put count 1", False), ("set p a 1", False),
                             ("new x bare", False), ("call x main", False), ("tell 1", True), ("mark m", True),
                             ("go 0", True), ("unless yes 0", True), ("back 0", True)]:
            self.assertIs(is_right(read_row(text), (), NOTHING, part), wanted, text)


class Leaves(unittest.TestCase):
    def told(self, text, ahead, behind):
        found = leaves(read_row(text), held(**ahead), PROGRAM)
        self.assertTrue(alike(found, held(**behind)), (text, found))

    def test_let(self):
        self.told("let x 1", {}, {"x": "number"})
        self.told("let x y", {"y": "[pair]"}, {"x": "[pair]", "y": "[pair]"})
        self.told("let b yes", {"a": "number", "c": "pair"}, {"a": "number", "b": "truth", "c": "pair"})
        self.told("let x yes", {"x": "number", "y": "number"}, {"x": "truth", "y": "number"})
        self.told("let x (add x 1)", {"x": "number"}, {"x": "number"})
        self.told("let x (list x)", {"x": "number"}, {"x": "[number]"})

    def test_let_of_a_term_without_a_kind_takes_the_name_out(self):
        for term in ["lacking", "g", "(add x yes)", "#lacking", "(empty gone)", "#away", "(field x f)"]:
            self.told("let x " + term, {"x": "number", "y": "truth", "g": "gone"}, {"y": "truth", "g": "gone"})
            self.told("let z " + term, {"x": "number", "g": "[gone]"}, {"x": "number", "g": "[gone]"})
        self.told("let x lacking", {}, {})

    def test_new(self):
        self.told("new x pair a 1, b (empty pair)", {"w": "truth", "y": "truth"},
                  {"w": "truth", "x": "pair", "y": "truth"})
        self.told("new x pair", {"x": "number"}, {"x": "pair"})
        self.told("new x pair a yes, z lacking", {}, {"x": "pair"})
        self.told("new x gone", {"x": "number", "y": "truth"}, {"y": "truth"})
        self.told("new x gone", {"y": "truth"}, {"y": "truth"})
        self.told("new x count", {"x": "pair"}, {})
        self.told("new x main", {"x": "pair"}, {})

    def test_call(self):
        self.told("call x main", {"a": "truth", "z": "truth"}, {"a": "truth", "x": "number", "z": "truth"})
        self.told("call x made", {"x": "number"}, {"x": "node"})
        self.told("call x nums 1 2 3", {"x": "number"}, {"x": "[number]"})
        self.told("call x two lacking", {}, {"x": "truth"})
        self.told("call x lacking", {"x": "number", "y": "truth"}, {"y": "truth"})
        self.told("call x lacking", {"y": "truth"}, {"y": "truth"})
        self.told("call x pair", {"x": "number"}, {})
        self.told("call x count", {"x": "number"}, {})

    def test_a_call_leaves_what_the_part_gives(self):
        self.told("call x bad", {"y": "truth"}, {"x": "gone", "y": "truth"})

    def test_others_change_nothing(self):
        for text in ["put count 1", "put x y", "put lacking lacking", "set x f 1", "set lacking f g", "tell x",
                     "tell lacking", "mark x", "mark m", "go 0", "unless x 0", "unless lacking 9", "back x",
                     "back lacking"]:
            self.told(text, {"x": "number", "y": "pair", "g": "gone"}, {"x": "number", "y": "pair", "g": "gone"})
            self.told(text, {}, {})

    def test_sorted_wherever_the_name_comes(self):
        for name in ["a", "b", "bb", "c", "cc", "d", "m", "z", "zz"]:
            for row in ["let {} 1", "new {} bare", "call {} main"]:
                found = leaves(read_row(row.format(name)), held(b="truth", bb="truth", c="truth", m="truth", z="gone"),
                               PROGRAM)
                self.assertEqual([one for one, _ in found], sorted({"b", "bb", "c", "m", "z", name}))
                self.assertEqual(dict(found)[name], ("record", "bare") if "new" in row else NUMBER)


class Asked(unittest.TestCase):
    def test_asked_again_all_is_told_alike_and_nothing_changes(self):
        before = copy.deepcopy(PROGRAM)
        holding = copy.deepcopy(HOLDING)
        part = PROGRAM[2]["two"]
        rows = [read_row(text) for text in ["let x (add n 1)", "new n bare", "call x two n ts", "set p a 1", "back t",
                                            "let x lacking", "new x gone", "call x lacking", "put count n"]]
        for row in rows:
            self.assertTrue(alike(leaves(row, HOLDING, PROGRAM), leaves(row, HOLDING, PROGRAM)))
            self.assertIs(is_right(row, HOLDING, PROGRAM, part), is_right(row, HOLDING, PROGRAM, part))
        for term, _ in TERMS:
            self.assertTrue(alike(kind_of(term, HOLDING, PROGRAM), kind_of(term, HOLDING, PROGRAM)))
        self.assertTrue(alike(PROGRAM, before))
        self.assertEqual([list(things) for things in PROGRAM], [list(things) for things in before])
        self.assertTrue(alike(HOLDING, holding))

    def test_a_program_that_changes_is_looked_at_anew(self):
        program = ({}, {}, {})
        self.assertIsNone(kind_of(("box", "b"), (), program))
        program[1]["b"] = (NUMBER, 1)
        self.assertEqual(kind_of(("box", "b"), (), program), NUMBER)
        self.assertIs(is_there(("record", "n"), program), False)
        program[0]["n"] = ()
        self.assertIs(is_there(("record", "n"), program), True)
        self.assertEqual(leaves(("new", "x", "n", ()), (), program), (("x", ("record", "n")),))


if __name__ == "__main__":
    unittest.main()
