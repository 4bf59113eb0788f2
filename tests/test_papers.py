"""Papers and right programs, points 2, 13 and 14."""

import copy
import itertools
import unittest

from changewhile import errors
from changewhile.errors import ChangeError, NotRight
from changewhile.kinding import leaves
from changewhile.kinds import read_kind
from changewhile.papers import grown, papers_of, reads, wrong_rows
from changewhile.programtexts import read_program
from changewhile.rows import next_rows
from tests.examples import BAD_KINDS, BAD_NAMES, NUMBER, TRUTH, X, alike, odd_things
from tests.making import made_programs

KINDS = "kind bare\nkind pair a number, b truth\n"


def held(text):
    """The holding of a text as `x number, y truth`, or None of `-`."""
    if text == "-":
        return None
    return tuple(sorted((piece.split(" ")[0], read_kind(piece.split(" ")[1])) for piece in text.split(", ") if piece))


def paper(*texts):
    return tuple(held(text) for text in texts)


def part_of(head, *rows, others=""):
    """A program with one part p, and others, and that part."""
    text = KINDS + "part p " + head + "\n" + "".join("  " + row + "\n" for row in rows) + others
    program = read_program(text)
    return program, program[2]["p"]


def grown_another_way(program, part, row, holding):
    """All holdings brought down at once, again and again, until nothing comes down any more."""
    rows = part[2]
    found = [None] * len(rows)
    while True:
        brought = [[] for _ in rows]
        brought[row].append(holding)
        for r in range(len(rows)):
            if found[r] is not None:
                for n in next_rows(rows, r):
                    brought[n].append(leaves(rows[r], found[r], program))
        after = [tuple(pair for pair in some[0] if all(pair in other for other in some)) if some else None
                 for some in brought]
        if after == found:
            return tuple(found)
        found = after


class Grown(unittest.TestCase):
    def told(self, program, part, *texts, row=0, holding=None):
        beginning = tuple(sorted(part[0])) if holding is None else held(holding)
        self.assertTrue(alike(grown(program, part, row, beginning), paper(*texts)),
                        grown(program, part, row, beginning))

    def test_rows_one_behind_the_other(self):
        program, part = part_of("(y truth, x number) number", "let z (add x 1)", "new x bare", "let y x", "mark m",
                                "tell z", "call z p y 1", "back z")
        self.told(program, part, "x number, y truth", "x number, y truth, z number", "x bare, y truth, z number",
                  "x bare, y bare, z number", "x bare, y bare, z number", "x bare, y bare, z number",
                  "x bare, y bare, z number")

    def test_the_beginning_is_held_as_handed_in(self):
        program, part = part_of("() number", "tell 0", "back 0")
        self.told(program, part, "", "")
        self.told(program, part, "a gone, b [number]", "a gone, b [number]", holding="a gone, b [number]")

    def test_rows_to_which_no_way_leads(self):
        program, part = part_of("() number", "go 3", "let x 1", "tell x", "back 0", "tell 1", "go 4")
        self.told(program, part, "", "-", "-", "", "-", "-")

    def test_from_any_other_row(self):
        program, part = part_of("() number", "let x 1", "let y 1", "tell x", "let z 1", "back 0")
        for row in range(5):
            texts = ["-"] * row + ["q truth" + "".join(", " + name + " number" for name, at in (("x", 0), ("y", 1),
                                   ("z", 3)) if row <= at < r) for r in range(row, 5)]
            self.told(program, part, *texts, row=row, holding="q truth")

    def test_a_jump_to_the_row_itself(self):
        program, part = part_of("() number", "let x 1", "go 1")
        self.told(program, part, "", "x number")
        program, part = part_of("(x truth) number", "unless x 0", "unless x 1", "back 0")
        self.told(program, part, "x truth", "x truth", "x truth")
        program, part = part_of("() number", "go 0")
        self.told(program, part, "a bare", holding="a bare")

    def test_both_ways_of_an_unless_to_one_row(self):
        program, part = part_of("(x truth) number", "unless x 1", "let y 1", "unless x 3", "back y")
        self.told(program, part, "x truth", "x truth", "x truth, y number", "x truth, y number")

    def test_ways_that_come_together(self):
        program, part = part_of("(t truth) number", "unless t 4", "let x 1", "let y 1", "go 7", "let x 2", "let y yes",
                                "let z 1", "tell x", "back 0")
        self.told(program, part, "t truth", "t truth", "t truth, x number", "t truth, x number, y number", "t truth",
                  "t truth, x number", "t truth, x number, y truth", "t truth, x number", "t truth, x number")

    def test_a_loop_that_keeps_what_it_changes_alike(self):
        program, part = part_of("(n number) number", "let i 0", "unless (under i n) 4", "let i (add i 1)", "go 1",
                                "back i")
        self.told(program, part, "n number", "i number, n number", "i number, n number", "i number, n number",
                  "i number, n number")

    def test_a_loop_that_takes_away(self):
        program, part = part_of("(n number) number", "let i 0", "unless (under n 1) 4", "let i yes", "go 1", "back i")
        self.told(program, part, "n number", "n number", "n number", "i truth, n number", "n number")

    def test_a_loop_that_takes_away_one_behind_the_other(self):
        # The kind of a goes with that of b, that of b with that of c: one more each time round.
        program, part = part_of("() number", "let a 1", "let b 1", "let c 1", "unless yes 8", "let a (add b 1)",
                                "let b (add c 1)", "let c yes", "go 3", "back 0")
        self.told(program, part, "", "a number", "a number, b number", "", "", "", "", "c truth", "")

    def test_the_beginning_among_what_comes_back_to_its_row(self):
        program, part = part_of("() number", "tell 0", "let x 1", "let y yes", "go 0")
        self.told(program, part, "", "", "x number", "x number, y truth")
        self.told(program, part, "x number", "x number", "x number", "x number, y truth", holding="x number, y number")
        self.told(program, part, "", "", "x number", "x number, y truth", holding="x truth")

    def test_the_beginning_at_a_row_of_a_loop(self):
        program, part = part_of("() number", "tell 0", "let x 1", "let y yes", "go 0")
        self.told(program, part, "y truth", "y truth", "", "y truth", row=2, holding="")
        self.told(program, part, "x number, y truth", "x number, y truth", "x number", "x number, y truth", row=2,
                  holding="x number")
        self.told(program, part, "y truth", "y truth", "", "y truth", row=2, holding="x truth")
        self.told(program, part, "q bare, y truth", "q bare, y truth", "q bare", "q bare, y truth", row=2,
                  holding="q bare, y number")

    def test_the_most_that_can_be_so(self):
        program, part = part_of("(a number, b truth) number", "mark m", "unless b 0", "go 0")
        self.told(program, part, "a number, b truth", "a number, b truth", "a number, b truth")
        program, part = part_of("(x number) number", "let x (add x 1)", "go 0")
        self.told(program, part, "x number", "x number")

    def test_wrong_rows_lead_on(self):
        program, part = part_of("(x number) number", "tell lacking", "let x yes", "let y lacking", "new x gone",
                                "call x gone", "set x f 1", "unless 1 0", "back yes")
        self.told(program, part, "", "", "x truth", "x truth", "", "", "", "")

    def test_fifty_five_rows(self):
        names = ["n" + a + b for a in "abcde" for b in "abcdefghijk"]
        rows = ["let " + name + " 1" for name in names[:54]] + ["back 0"]
        program, part = part_of("() number", *rows)
        self.told(program, part, *[", ".join(name + " number" for name in names[:r]) for r in range(55)])

    def test_a_long_chain_of_loops(self):
        rows = []
        for r in range(0, 54, 2):
            rows += ["unless (under x 1) " + str(r), "let x (add x 1)"]
        program, part = part_of("(x number, y truth) number", *rows, "back x")
        self.told(program, part, *["x number, y truth"] * 55)

    def test_grown_another_way(self):
        for program in made_programs(60):
            for name, part in program[2].items():
                beginning = tuple(sorted(part[0]))
                for row in range(0, len(part[2]), 3):
                    for holding in (beginning, (), (("a", NUMBER), ("b", TRUTH), ("c", ("list", NUMBER)))):
                        told = grown(program, part, row, holding)
                        self.assertTrue(alike(told, grown_another_way(program, part, row, holding)))

    def test_all_flat_bodies_of_three_rows(self):
        pieces = [("let", "x", ("number", 1)), ("let", "x", ("truth", True)), ("let", "y", X), ("tell", X), ("go", 0),
                  ("go", 2), ("unless", X, 0), ("unless", X, 2), ("back", X)]
        for rows in itertools.product(pieces, pieces, [row for row in pieces if row[0] in ("go", "back")]):
            part = ((), NUMBER, rows)
            program = ({}, {}, {"p": part})
            for row in range(3):
                for holding in ((), (("x", NUMBER),), (("x", TRUTH), ("y", TRUTH))):
                    self.assertEqual(grown(program, part, row, holding),
                                     grown_another_way(program, part, row, holding), rows)


class Wrong(unittest.TestCase):
    def test_rows_that_are_wrong_in_their_holdings(self):
        program, part = part_of("(x number) number", "tell x", "tell y", "let y x", "tell y", "back yes")
        self.assertEqual(wrong_rows(program, part, grown(program, part, 0, held("x number"))), [1, 4])
        self.assertEqual(wrong_rows(program, part, grown(program, part, 0, held("x number, y number"))), [4])
        self.assertEqual(wrong_rows(program, part, grown(program, part, 0, held("x truth"))), [0, 1, 3, 4])
        self.assertEqual(wrong_rows(program, part, grown(program, part, 0, ())), [0, 1, 2, 3, 4])

    def test_none_of_rows_without_a_holding(self):
        program, part = part_of("() number", "go 3", "tell x", "back yes", "tell 1", "go 3")
        self.assertEqual(wrong_rows(program, part, grown(program, part, 0, ())), [])
        self.assertEqual(wrong_rows(program, part, (None,) * 5), [])
        self.assertEqual(wrong_rows(program, part, (None, (), None, None, None)), [1])
        self.assertEqual(wrong_rows(program, part, ((), (), (), (), ())), [1, 2])

    def test_rising_also_where_ways_lead_back(self):
        program, part = part_of("() number", "go 4", "tell x", "tell x", "back yes", "tell x", "go 1")
        self.assertEqual(wrong_rows(program, part, grown(program, part, 0, ())), [1, 2, 3, 4])

    def test_the_list_is_the_askers_own(self):
        program, part = part_of("() number", "tell x", "back yes")
        first = wrong_rows(program, part, ((), ()))
        self.assertIs(type(first), list)
        first.append(9)
        self.assertEqual(wrong_rows(program, part, ((), ())), [0, 1])


class Reads(unittest.TestCase):
    def setUp(self):
        self.program, self.part = part_of("(t truth, x number) number", "let y x", "unless t 4", "let z (add x y)",
                                          "go 5", "let z 1", "back z")
        self.paper = grown(self.program, self.part, 0, held("t truth, x number"))

    def told(self, wanted, *texts):
        self.assertIs(reads(self.program, self.part, paper(*texts)), wanted, texts)

    def test_what_is_grown_is_read(self):
        self.assertIs(reads(self.program, self.part, self.paper), True)
        for program in made_programs(40):
            for name, part in program[2].items():
                told = grown(program, part, 0, tuple(sorted(part[0])))
                self.assertIs(reads(program, part, told), True)
                self.assertIs(reads(program, part, (None,) * len(told)), True)

    def test_a_paper_that_tells_less(self):
        self.told(True, "t truth, x number", "t truth, x number, y number", "x number, y number", "z number", "",
                  "z number")
        self.told(False, "t truth, x number", "t truth, x number", "x number, y number", "z number", "", "z number")
        self.told(False, "t truth", "t truth", "x number, y number", "z number", "", "z number")
        self.told(False, "t truth, x number", "t truth, x number, y number", "x number", "z number", "", "z number")
        self.told(False, "t truth, x number", "t truth, x number, y number", "x number, y number", "z number", "", "")

    def test_a_paper_that_begins_anywhere(self):
        self.told(True, "-", "-", "x number, y number", "z number", "-", "z number")
        self.told(True, "-", "-", "-", "-", "q bare", "z number, q bare")
        self.told(True, "-", "-", "-", "-", "-", "z number")
        self.told(True, "-", "-", "-", "-", "-", "-")

    def test_a_row_that_is_wrong(self):
        self.told(False, "-", "-", "-", "-", "-", "z truth")
        self.told(False, "-", "-", "-", "-", "-", "")
        self.told(False, "-", "-", "x number", "-", "-", "z number")

    def test_a_row_next_to_it_that_has_none(self):
        for r in range(6):
            less = self.paper[:r] + (None,) + self.paper[r + 1:]
            self.assertIs(reads(self.program, self.part, less), r == 0)

    def test_a_pair_that_is_not_left(self):
        for r in range(6):
            for pair in [("q", NUMBER), ("aa", TRUTH), ("w", ("record", "bare"))]:
                more = self.paper[:r] + (tuple(sorted(self.paper[r] + (pair,))),) + self.paper[r + 1:]
                self.assertIs(reads(self.program, self.part, more), r == 0)
        for r in range(6):
            for name, kind in self.paper[r]:
                other = tuple((one, old if one != name else NUMBER if kind == TRUTH else TRUTH)
                              for one, old in self.paper[r])
                more = self.paper[:r] + (other,) + self.paper[r + 1:]
                self.assertIs(reads(self.program, self.part, more), False, more)

    def test_too_short_and_too_long(self):
        for many in range(9):
            self.assertIs(reads(self.program, self.part, (None,) * many), many == 6)
        self.assertIs(reads(self.program, self.part, self.paper + (None,)), False)
        self.assertIs(reads(self.program, self.part, (None,) + self.paper), False)
        self.assertIs(reads(self.program, self.part, self.paper[:5]), False)
        self.assertIs(reads(self.program, self.part, ()), False)

    def none_of(self, holding):
        """No paper is read with such a thing at some row, where else nothing would be wrong."""
        program, part = part_of("() number", "go 1", "go 0", "go 2")
        for at in range(3):
            things = [(), (), ()]
            things[at] = holding
            self.assertIs(reads(program, part, tuple(things)), False, repr(holding))
            things = [None, None, None]
            things[at] = holding
            self.assertIs(reads(program, part, tuple(things)), False, repr(holding))

    def test_things_that_are_no_holdings(self):
        for thing in odd_things() + [0, 1, True, False, "", "-", "x number", X]:
            if thing is not None:
                self.none_of(thing)
                self.none_of((thing,))
                self.none_of((("x", thing),))
                self.none_of(((thing, NUMBER),))
        self.none_of(NUMBER)
        self.none_of(("x", NUMBER))
        for kind in BAD_KINDS:
            self.none_of((("x", kind),))
        for name in BAD_NAMES:
            self.none_of(((name, NUMBER),))
        for thing in [(("b", NUMBER), ("a", NUMBER)), (("a", NUMBER), ("a", NUMBER)), (("a", NUMBER), ("a", TRUTH)),
                      [("a", NUMBER)], (["a", NUMBER],), {"a": NUMBER}, (("a", NUMBER, NUMBER),), (("a",),), ("a",),
                      (("a", NUMBER), None), (("a", NUMBER), ()), (("aa", NUMBER), ("a", NUMBER)),
                      (("a", NUMBER), ("c", NUMBER), ("b", NUMBER))]:
            self.none_of(thing)

    def test_things_that_are_no_papers(self):
        for thing in odd_things() + [None, [], [None] * 6, list(self.paper), "", 0, {}, True]:
            self.assertIs(reads(self.program, self.part, thing), False, repr(thing))
        for thing in odd_things():
            if thing is not None:
                self.assertIs(reads(self.program, self.part, (thing,) * 6), False, repr(thing))

    def test_kinds_that_are_not_there(self):
        program, part = part_of("() number", "tell 0", "go 0")
        for kind, told in [("bare", True), ("[pair]", True), ("gone", False), ("[[gone]]", False), ("p", False)]:
            for text in ("x " + kind, "a number, x " + kind):
                self.assertIs(reads(program, part, paper(text, text)), told)
                self.assertIs(reads(program, part, paper(text, "")), False)
        program, part = part_of("() number", "tell 0", "back 0")
        self.assertIs(reads(program, part, paper("x gone", "")), False)
        self.assertIs(reads(program, part, paper("-", "x gone")), False)
        self.assertIs(reads(program, part, paper("-", "x bare")), True)

    def test_it_is_read_in_the_program_handed_in(self):
        program, part = part_of("(x number) number", "call y q x", "put b y", "back y",
                                others="part q (x number) number\n  back x\n")
        told = paper("x number", "x number, y number", "y number")
        self.assertIs(reads(program, part, told), False)
        program[1]["b"] = (NUMBER, 0)
        self.assertIs(reads(program, part, told), True)
        program[2]["q"] = ((("x", NUMBER),), TRUTH, (("back", ("truth", True)),))
        self.assertIs(reads(program, part, told), False)
        del program[2]["q"]
        self.assertIs(reads(program, part, told), False)
        self.assertIs(reads(({}, {}, {}), part, told), False)

    def test_a_part_of_no_program(self):
        part = ((("x", TRUTH),), ("list", TRUTH), (("let", "y", X), ("back", ("list", X, ("name", "y")))))
        self.assertIs(reads(({}, {}, {}), part, paper("x truth", "x truth, y truth")), True)
        self.assertIs(reads(({}, {}, {}), part, paper("x number", "x number, y number")), False)
        self.assertTrue(alike(grown(({}, {}, {}), part, 0, part[0]), paper("x truth", "x truth, y truth")))

    def test_both_rows_next_to_an_unless(self):
        program, part = part_of("() number", "unless yes 2", "back 0", "back 1")
        self.told_of(program, part, True, "", "", "")
        self.told_of(program, part, False, "", "-", "")
        self.told_of(program, part, False, "", "", "-")
        self.told_of(program, part, False, "", "x number", "")
        self.told_of(program, part, False, "", "", "x number")
        self.told_of(program, part, True, "x number", "x number", "x number")

    def told_of(self, program, part, wanted, *texts):
        self.assertIs(reads(program, part, paper(*texts)), wanted, texts)


RIGHT = """\
kind node n number, to [node]
box all [node] = []
box many number = 3
part main () number
  let i 0
  let to (empty node)
  unless (under i #many) 7
  new x node n i, to to
  let to (list x)
  let i (add i 1)
  go 2
  put all to
  mark here
  call i sum #all
  tell i
  back i
part sum (to [node]) number
  unless (same to (empty node)) 2
  back 0
  new x node n 0, to to
  let y (at to 0 x)
  call r sum (field y to)
  back (add r (field y n))
"""


class Papers(unittest.TestCase):
    def refused(self, text, name, row):
        program = read_program(text) if isinstance(text, str) else text
        with self.assertRaises(NotRight) as caught:
            papers_of(program)
        self.assertEqual((caught.exception.name, caught.exception.row), (name, row), text)
        self.assertIs(type(caught.exception.row), int)

    def test_a_right_program(self):
        program = read_program(RIGHT)
        told = papers_of(program)
        self.assertTrue(alike(told, {name: grown(program, part, 0, tuple(sorted(part[0])))
                                     for name, part in program[2].items()}))
        self.assertEqual(told["main"][3], held("i number, to [node]"))
        self.assertEqual(told["main"][9], held("i number, to [node]"))
        self.assertEqual(told["sum"][5], held("r number, to [node], x node, y node"))

    def test_made_programs_are_right(self):
        for program in made_programs(40):
            self.assertEqual(sorted(papers_of(program)), sorted(program[2]))

    def test_the_least_programs(self):
        self.assertEqual(papers_of(({}, {}, {})), {})
        self.assertEqual(papers_of(read_program("kind n\nbox b number = 1\n")), {})
        self.assertEqual(papers_of(read_program("part p () number\n  go 0\n")), {"p": ((),)})

    def test_takes_are_held_sorted(self):
        program = read_program("part p (z number, a truth, m number) number\n  back (add z m)\n")
        self.assertEqual(papers_of(program), {"p": (held("a truth, m number, z number"),)})

    def test_rows_to_which_no_way_leads_are_not_wrong(self):
        papers_of(read_program("part p () number\n  go 2\n  call x lacking #lacking\n  back 0\n"))

    def test_kinds(self):
        self.refused("kind n f gone\n", "n", -1)
        self.refused("kind n f number, g [[gone]]\n", "n", -1)
        self.refused("kind m f n\nkind n f m, g o\n", "n", -1)
        self.refused("kind n f b\nbox b number = 1\n", "n", -1)
        papers_of(read_program("kind m f n\nkind n f m, g [n]\n"))

    def test_boxes(self):
        self.refused("box b gone = 1\n", "b", -1)
        self.refused("box b [gone] = []\n", "b", -1)
        self.refused("box b [[gone]] = [[]]\n", "b", -1)
        self.refused("kind n\nbox b n = 1\n", "b", -1)
        self.refused("kind n\nbox b n = []\n", "b", -1)
        self.refused("kind n\nbox b [n] = [1]\n", "b", -1)
        for kind, value in [("number", "yes"), ("number", "[]"), ("truth", "1"), ("truth", "0"), ("[number]", "1"),
                            ("[number]", "[yes]"), ("[number]", "[1, no]"), ("[truth]", "[1]"), ("[[number]]", "[1]"),
                            ("[number]", "[[]]"), ("[[number]]", "[[1], [2, [3]]]")]:
            self.refused("box b " + kind + " = " + value + "\n", "b", -1)
        for kind, value in [("number", "1"), ("truth", "no"), ("[number]", "[]"), ("[n]", "[]"), ("[[n]]", "[[], []]"),
                            ("[[truth]]", "[[], [yes]]")]:
            papers_of(read_program("kind n\nbox b " + kind + " = " + value + "\n"))

    def test_takes_and_gives(self):
        self.refused("part p (x gone) number\n  back 0\n", "p", -1)
        self.refused("part p (x number, y [gone]) number\n  back 0\n", "p", -1)
        self.refused("part p () gone\n  go 0\n", "p", -1)
        self.refused("part p () [[p]]\n  go 0\n", "p", -1)
        self.refused("part p (x gone) number\n  back x\n", "p", -1)
        self.refused("part p () [gone]\n  back (empty gone)\n", "p", -1)
        papers_of(read_program("kind n\npart p (x n, y [n]) [[n]]\n  back (list y (list x))\n"))

    def test_rows_that_are_wrong(self):
        for row in ["let x y", "let x (add 1 yes)", "put b 1", "put many yes", "set x f 1", "new x gone",
                    "new x node n 1", "call x gone", "call x sum", "call x sum 1", "tell yes", "tell x",
                    "unless 1 0", "back yes"]:
            for at in range(3):
                rows = ["tell 0", "mark m", "tell 1"]
                rows[at] = row
                self.refused(RIGHT + "part zz () number\n" + "".join("  " + one + "\n" for one in rows) + "  back 0\n",
                             "zz", at)
        self.refused("part p () truth\n  tell 1\n  back 0\n", "p", 1)

    def test_the_first_of_several(self):
        faults = [("a", "kind a f gone\n", -1), ("b", "box b number = yes\n", -1), ("c", "part c () gone\n  go 0\n", -1),
                  ("d", "part d () number\n  tell 1\n  tell yes\n  tell no\n  back 0\n", 1),
                  ("e", "part e (x gone) number\n  back yes\n", -1), ("f", "part f () number\n  back yes\n", 0)]
        sorts = {"kind": 0, "box": 1, "part": 2}
        for many in range(1, 4):
            for some in itertools.combinations(faults, many):
                for chosen in (some, some[::-1]):
                    program = ({}, {}, {})
                    for name, text, _ in chosen:
                        program[sorts[text.split(" ")[0]]].update(read_program(text)[sorts[text.split(" ")[0]]])
                    self.refused(program, some[0][0], some[0][2])

    def test_the_first_of_several_whichever_sort_has_the_first_name(self):
        for a, b, c in itertools.permutations("xyz"):
            texts = sorted(["kind " + a + " f gone\n"]) + ["box " + b + " number = yes\n",
                                                           "part " + c + " () number\n  tell 0\n  back yes\n"]
            self.refused("".join(texts), "x", 1 if c == "x" else -1)

    def test_rows_by_their_numbers(self):
        rows = ["  tell 0\n"] * 12
        for first in range(12):
            for second in range(first, 12):
                wrong = list(rows)
                wrong[first] = wrong[second] = "  tell yes\n"
                self.refused("part p () number\n" + "".join(wrong) + "  back 0\n", "p", first)

    def test_the_error_is_a_value_error_and_none_of_the_others(self):
        try:
            papers_of(read_program("part p () number\n  back yes\n"))
            self.fail()
        except NotRight as error:
            self.assertIs(type(error), NotRight)
            self.assertIsInstance(error, ChangeError)
            self.assertIsInstance(error, ValueError)
            for other in ("NoText", "Stuck", "NoFit", "NoLead", "NotNow"):
                self.assertNotIsInstance(error, getattr(errors, other))

    def test_behind_a_refusal_a_right_program_is_let_by(self):
        for _ in range(3):
            self.refused("part p () number\n  back yes\n", "p", 0)
            self.assertEqual(sorted(papers_of(read_program(RIGHT))), ["main", "sum"])


class Asked(unittest.TestCase):
    def test_asked_again_all_is_told_alike_and_nothing_changes(self):
        for program in made_programs(10) + [read_program(RIGHT)]:
            before = copy.deepcopy(program)
            first = papers_of(program)
            second = papers_of(program)
            self.assertTrue(alike(first, second))
            self.assertIsNot(first, second)
            for name, part in program[2].items():
                kept = copy.deepcopy(first[name])
                self.assertTrue(alike(grown(program, part, 0, tuple(sorted(part[0]))), kept))
                self.assertIs(reads(program, part, first[name]), reads(program, part, first[name]))
                self.assertEqual(wrong_rows(program, part, first[name]), [])
                self.assertTrue(alike(first[name], kept))
            first.clear()
            self.assertTrue(alike(papers_of(program), second))
            self.assertTrue(alike(program, before))
            self.assertEqual([list(things) for things in program], [list(things) for things in before])

    def test_things_that_are_no_papers_stay(self):
        program, part = part_of("() number", "tell 0", "back 0")
        for thing in [([], {}), ([("x", NUMBER)], None), ((["x", ["number"]],), ())]:
            before = copy.deepcopy(thing)
            self.assertIs(reads(program, part, thing), False)
            self.assertTrue(alike(thing, before))


if __name__ == "__main__":
    unittest.main()
