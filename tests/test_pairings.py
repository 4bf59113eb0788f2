"""Pairings that are read, and rests that stay paired, points 2, 31, 32 and 33."""

import copy
import unittest

from changewhile.changes import changed
from changewhile.changetexts import read_change
from changewhile.pairings import reads_pairing, stays_paired
from changewhile.papers import grown, papers_of
from changewhile.programtexts import read_program
from changewhile.terms import read_term
from tests.examples import alike, odd_things
from tests.making import made_programs

HEAD = """\
kind m k truth
kind n f number, g [n]
box b number = 1
box c number = 2
box ps [n] = []
box t truth = yes
"""
# What is led otherwise by LEADS, and what is new behind them.
LEADS = "lead n f (add f 1), h f\nlead b (times it 2)\nlead t (pick it 1 0)\n"
OTHERWISE = """\
kind n f number, g [n], h number, log number
kind q z number
box b number = 1
box fresh number = 0
box t number = 1
"""
TAKES = "(x number, y number, l truth, p n)"
SUB = "part sub (a number, d number) number\n  back (add a d)\n"
NEW_SUB = "part sub (v number, w number, e number) number\n  back (add v w)\n"
SUB_PAIRED = ((("v", ("name", "a")), ("w", ("name", "d"))),
              ((0, 0, 0, (("v", ("name", "a")), ("w", ("name", "d")))),))


def names(text):
    """The pairs of a text as in `u x, v (add x 1)`, sorted."""
    pairs = [piece.split(" ", 1) for piece in text.split(", ")] if text else []
    return tuple(sorted((new, read_term(term)) for new, term in pairs))


def entries(*texts):
    """Entries of texts as in `0 0 0 u x`, sorted."""
    found = []
    for text in texts:
        r, s, rank, *told = text.split(" ", 3)
        found.append((int(r), int(s), int(rank), names(told[0] if told else "")))
    return tuple(sorted(found))


SAME = "x x, y y, l l, p p"


class Paired(unittest.TestCase):
    def program(self, rows, gives="number", sub=SUB):
        return read_program(HEAD + "part main " + TAKES + " " + gives + "\n" + rows + sub)

    def change(self, rows, otherwise=False, gives="number", takes=TAKES, sub=None):
        """A change that puts main, with what is led otherwise or without; then sub takes one more, and is paired."""
        if not otherwise:
            return read_change("part main " + takes + " " + gives + "\n" + rows + (sub or ""))
        lead = LEADS.replace("lead n f (add f 1), h f", "lead n f (add f 1), h f, log 7")
        return read_change(OTHERWISE + "part main " + takes + " " + gives + "\n" + rows + NEW_SUB + lead)

    def reads(self, old, new, pairing, otherwise=False, gives="number"):
        program, change = self.program(old, gives), self.change(new, otherwise, gives)
        kept = copy.deepcopy((program, change, pairing))
        told = reads_pairing(program, change, pairing)
        self.assertIs(type(told), bool)
        self.assertTrue(alike((program, change, pairing), kept))
        self.assertIs(reads_pairing(program, change, pairing), told)
        return told


ROWS = {"tell": "  back 0\n", "let": "  back 0\n", "put": "  back 0\n", "set": "  back 0\n", "new": "  back 0\n",
        "call": "  back 0\n", "mark": "  back 0\n", "unless": "  back 0\n  back 0\n", "go": "", "back": ""}


class BothRows(Paired):
    """One old row beside one new row, then a back that is alike; the takes are paired by themselves."""

    def told(self, old, new, wanted, *, free=(), held=SAME, behind="", otherwise=False, gives="number", takes=SAME):
        """Whether the entry of both rows goes on, to entries behind it that hold what is told."""
        tail = ROWS[old.split(" ", 1)[0]]
        lines = ["0 0 0 " + held]
        if old.split(" ", 1)[0] not in ("back", "go"):
            lines.append("1 1 0 " + behind)
        if old.startswith("unless"):
            lines.append("2 2 0")
        if old.startswith("go"):
            lines = ["0 0 0 " + held]
        parts = {"main": (names(takes), entries(*[line.strip() for line in lines]))}
        if otherwise:
            parts["sub"] = SUB_PAIRED
        told = self.reads("  " + old + "\n" + tail, "  " + new + "\n" + tail, (tuple(free), parts), otherwise, gives)
        self.assertIs(told, wanted, (old, new))

    def test_tell(self):
        self.told("tell x", "tell x", True)
        self.told("tell (add x y)", "tell (add y (add x 0))", True)
        self.told("tell x", "tell y", False)
        self.told("tell x", "tell (add x 1)", False)
        self.told("tell 3", "tell 4", False)
        self.told("tell 3", "tell (add 1 2)", True)
        self.told("tell x", "tell y", True, held="y x, x y", takes="y x, x y")
        self.told("tell x", "tell x", False, held="y y")
        self.told("tell x", "tell x", True, held="x x")
        self.told("tell 0", "tell (times x 0)", False, held="")
        self.told("tell (add x y)", "tell x", True, held="x (add y x)", takes="x (add y x)")
        self.told("tell x", "tell (pick l x x)", True)
        self.told("tell x", "put b x", False)
        self.told("tell x", "let x x", False)

    def test_names_at_the_beginning_are_among_the_takes(self):
        self.told("tell x", "tell x", False, takes="y y, l l, p p")
        self.told("tell x", "tell x", False, takes="x y, l l, p p")
        self.told("tell x", "tell x", True, held="x x", takes=SAME)

    def test_boxes(self):
        self.told("tell #b", "tell #b", True)
        self.told("tell #b", "tell #c", False)
        self.told("tell #b", "tell #b", False, free=("b",))
        self.told("tell #b", "tell (add #b 0)", True, free=("c",))

    def test_boxes_that_are_led_otherwise(self):
        self.told("tell (times 2 #b)", "tell #b", True, otherwise=True)
        self.told("tell (add #b #b)", "tell #b", True, otherwise=True)
        self.told("tell #b", "tell #b", False, otherwise=True)
        self.told("tell (times 2 #b)", "tell #b", False, otherwise=True, free=("b",))
        self.told("tell (pick #t 1 0)", "tell #t", True, otherwise=True)
        self.told("tell (pick #t 0 1)", "tell #t", False, otherwise=True)
        # A box that was not there ahead is nothing of old, be it free or not.
        self.told("tell 0", "tell #fresh", False, otherwise=True)
        self.told("tell 0", "tell #fresh", False, otherwise=True, free=("fresh",))
        self.told("tell 0", "tell (times 0 #fresh)", False, otherwise=True)

    def test_fields(self):
        self.told("tell (field p f)", "tell (field p f)", True)
        self.told("tell (field p f)", "tell (field p f)", False, free=(("n", "f"),))
        self.told("tell (field p f)", "tell (field p f)", True, free=(("n", "g"), ))
        self.told("tell (field p f)", "tell (field p f)", True, free=(("m", "k"), ("n", "g")))
        self.told("tell (field (at #ps 0 p) f)", "tell (field (at #ps 0 p) f)", True)
        self.told("tell (field p f)", "tell (field (at #ps 0 p) f)", False)
        self.told("tell (field p f)", "tell (field p f)", False, held="x x")

    def test_fields_that_are_led_otherwise(self):
        self.told("tell (add (field p f) 1)", "tell (field p f)", True, otherwise=True)
        self.told("tell (field p f)", "tell (field p f)", False, otherwise=True)
        self.told("tell (field p f)", "tell (field p h)", True, otherwise=True)
        self.told("tell (field p f)", "tell (less (field p f) 1)", True, otherwise=True)
        self.told("tell 7", "tell (field p log)", True, otherwise=True)
        self.told("tell 7", "tell (field p log)", False, otherwise=True, free=(("n", "log"),))
        self.told("tell (field (at (field p g) 0 p) f)", "tell (field (at (field p g) 0 p) h)", True, otherwise=True)
        self.told("tell (field (at (field p g) 0 p) f)", "tell (field (at (field p g) 0 p) f)", False, otherwise=True)

    def test_back(self):
        self.told("back x", "back (add x 0)", True)
        self.told("back x", "back y", False)
        self.told("back l", "back (not (not l))", True, gives="truth")
        self.told("back l", "back (not l)", False, gives="truth")
        self.told("back p", "back p", True, gives="n")
        self.told("back p", "back (at #ps 0 p)", False, gives="n")

    def test_mark(self):
        self.told("mark here", "mark here", True, behind=SAME)
        self.told("mark here", "mark there", True, behind=SAME)
        self.told("mark here", "mark here", False, held="x x", behind=SAME)
        self.told("mark here", "tell 0", False)
        self.told("tell 0", "mark here", False)

    def test_go(self):
        self.told("go 0", "go 0", True)

    def test_let(self):
        self.told("let x (add y 1)", "let x (add 1 y)", True, behind="x x, y y, l l, p p")
        self.told("let x (add y 1)", "let z (add 1 y)", True, behind="z x, y y")
        self.told("let z (add y 1)", "let x (add 1 y)", True, behind="x z, y y")
        self.told("let x (add y 1)", "let x (add y 2)", False, behind="y y")
        self.told("let x (add y 1)", "let x (add y 2)", False, behind="x x, y y")
        self.told("let x (add y 1)", "let x (add y 2)", False)
        # What the old row lets anew is struck where a term has it, and what the new one does.
        self.told("let x (add y 1)", "let z (add 1 y)", False, behind="x x")
        self.told("let z (add y 1)", "let x (add 1 y)", False, behind="x x")
        self.told("let x 5", "let z 5", False, held="y (add x 1)", takes="y (add x 1)", behind="y (add x 1)")
        self.told("let z 5", "let z 5", True, held="y (add x 1)", takes="y (add x 1)", behind="y (add x 1), z z")
        self.told("let x 5", "let y 5", False, behind="x x")
        self.told("let x 5", "let y 5", False, behind="y y")
        self.told("let x 5", "let y 5", True, behind="y x, l l")

    def test_put(self):
        self.told("put b (add x 1)", "put b (add 1 x)", True, behind=SAME)
        self.told("put b (add x 1)", "put b x", False)
        self.told("put b x", "put c x", False)
        self.told("put b x", "put b x", False, free=("b",))
        self.told("put b x", "put b x", True, free=("c",))
        self.told("put b x", "put b (times x 2)", True, otherwise=True)
        self.told("put b x", "put b x", False, otherwise=True)
        self.told("put t l", "put t (pick l 1 0)", True, otherwise=True)
        self.told("put t l", "put t (pick l 0 1)", False, otherwise=True)
        self.told("put t yes", "put t 1", True, otherwise=True)

    def test_set(self):
        self.told("set p f (add x 1)", "set p f (add 1 x)", True, behind=SAME)
        self.told("set p f x", "set p f y", False)
        self.told("set p f x", "set (at #ps 0 p) f x", False)
        self.told("set p f x", "set (at #ps 0 p) f x", False, free=(("n", "g"),))
        self.told("set p f x", "set (pick l p p) f x", True, free=(("n", "g"),))
        self.told("set p f x", "set p g (empty n)", False)
        self.told("set p g (list p)", "set p g (join (list p) (empty n))", True)
        self.told("set p f x", "set p f x", True, free=(("n", "f"),))
        self.told("set p f x", "set p f y", True, free=(("n", "f"),))
        self.told("set p f x", "set p g (empty n)", False, free=(("n", "f"),))
        self.told("set p f x", "set p g (empty n)", True, free=(("n", "f"), ("n", "g")))
        self.told("set p f x", "set p f x", False, held="x x")
        self.told("set p f x", "set p f x", False, held="p p")
        # A set of what a field is already, and one of another field, that does no more.
        self.told("set p f (field p f)", "set p g (field p g)", True)
        self.told("set p f (field p f)", "set p f (field p f)", True)

    def test_set_of_what_is_led_otherwise(self):
        def told(old, new, wanted, free=()):
            self.told(old, new, wanted, free=free, otherwise=True)

        # f is f and one more; h was f; so one set of the new rows cannot do both.
        told("set p f x", "set p f (add x 1)", False)
        told("set p f x", "set p h x", False)
        told("set p f x", "set p f (add x 1)", True, (("n", "h"),))
        told("set p f x", "set p f x", False, (("n", "h"),))
        told("set p f x", "set p h x", True, (("n", "f"),))
        told("set p f x", "set p h (add x 1)", False, (("n", "f"),))
        told("set p f x", "set p log y", True, (("n", "f"), ("n", "h"), ("n", "log")))
        told("set p f x", "set p log 7", True, (("n", "f"), ("n", "h")))
        told("set p f x", "set p log 8", False, (("n", "f"), ("n", "h")))
        told("set p g (list p)", "set p g (list p)", True)

    def test_new(self):
        self.told("new z n f x, g (list p)", "new z n f (add x 0), g (list p)", True, behind="z z, x x")
        self.told("new z n f x, g (list p)", "new x n f x, g (list p)", True, behind="x z, y y")
        self.told("new z n f x, g (list p)", "new x n f x, g (list p)", False, behind="x x")
        self.told("new x n f x, g (list p)", "new x n f x, g (list p)", False, behind="x x, y x")
        self.told("new x n f x, g (list p)", "new y n f x, g (list p)", False, behind="x x")
        self.told("new z n f x, g (list p)", "new z n f y, g (list p)", False)
        self.told("new z n f x, g (list p)", "new z n f x, g (empty n)", False)
        self.told("new z n f x, g (list p)", "new z n f y, g (list p)", True, free=(("n", "f"),))
        self.told("new z n f x, g (list p)", "new z m k l", False)
        self.told("new z m k l", "new z m k (not (not l))", True, behind="z z")

    def test_new_of_what_is_led_otherwise(self):
        old = "new z n f x, g (empty n)"
        self.told(old, "new z n f (add x 1), g (empty n), h x, log 7", True, otherwise=True, behind="z z, x x")
        self.told(old, "new z n f x, g (empty n), h x, log 7", False, otherwise=True)
        self.told(old, "new z n f (add x 1), g (empty n), h y, log 7", False, otherwise=True)
        self.told(old, "new z n f (add x 1), g (empty n), h x, log 8", False, otherwise=True)
        self.told(old, "new z n f (add x 1), g (empty n), h x, log 8", True, otherwise=True, free=(("n", "log"),))
        self.told(old, "new z n f y, g (empty n), h x, log 8", True, otherwise=True, free=(("n", "f"), ("n", "log")))

    def test_unless(self):
        self.told("unless l 2", "unless (not (not l)) 2", True)
        self.told("unless l 2", "unless (not l) 2", False)
        self.told("unless (under x y) 2", "unless (under y x) 2", False)
        self.told("unless l 2", "unless l 1", False)
        self.told("unless l 1", "unless l 1", True)

    def test_call(self):
        self.told("call z sub x y", "call z sub x y 3", True, otherwise=True, behind="z z, x x")
        self.told("call z sub x y", "call x sub (add x 0) y 0", True, otherwise=True, behind="x z, y y")
        self.told("call z sub x y", "call z sub y x 3", False, otherwise=True)
        self.told("call z sub x y", "call z sub x x 3", False, otherwise=True)
        self.told("call z sub x y", "call x sub x y 3", False, otherwise=True, behind="x x")
        self.told("call x sub x y", "call z sub x y 3", False, otherwise=True, behind="x x")


class Calls(Paired):
    def told(self, sub_pairing, wanted, old="call z sub x y", new="call z sub x y", new_sub=None, main=True):
        parts = {"main": (names(SAME), entries("0 0 0 " + SAME, "1 1 0 z z"))} if main else {}
        if sub_pairing is not None:
            parts["sub"] = sub_pairing
        program = self.program("  " + old + "\n  back z\n")
        change = self.change("  " + new + "\n  back z\n", sub=new_sub)
        self.assertIs(reads_pairing(program, change, ((), parts)), wanted)

    def paired(self, takes, *lines):
        return (names(takes), entries(*(lines or ["0 0 0 " + takes])))

    def test_a_part_that_is_called_and_not_paired(self):
        self.told(None, False)
        self.told(None, True, main=False)
        self.told(self.paired("a a, d d"), True)
        self.told(self.paired("a a, d d"), True, main=False)

    def test_takes_as_they_are_paired(self):
        self.told(self.paired("a a, d d"), False, new="call z sub y x")
        self.told(self.paired("a d, d a"), True, new="call z sub y x")
        self.told(self.paired("a d, d a"), False)
        self.told(self.paired("a (add a 1), d (less d 1)"), True, new="call z sub (add x 1) (add y 999999999999)")
        self.told(self.paired("a (add a d), d 0"), True, new="call z sub (add x y) 0")
        self.told(self.paired("a (add a d), d 0"), False, new="call z sub (add x y) 1")
        self.told(self.paired("a a, d d", "0 0 0 a a"), False)

    def test_takes_that_nobody_pairs(self):
        sub = "part sub (a number, d number) number\n  back (add a 0)\n"
        program = self.program("  call z sub x y\n  back z\n", sub=sub)
        change = self.change("  call z sub x 99\n  back z\n")
        main = (names(SAME), entries("0 0 0 " + SAME, "1 1 0 z z"))
        self.assertTrue(reads_pairing(program, change, ((), {"main": main, "sub": self.paired("a a")})))
        self.assertFalse(reads_pairing(program, change, ((), {"main": main, "sub": self.paired("a a, d d")})))

    def test_another_gives(self):
        program = read_program("part main () number\n  back 1\npart sub () number\n  back 1\n")
        for text, wanted in (("part sub () number\n  back 1\n", True), ("part sub () truth\n  back yes\n", False),
                             ("part sub () [number]\n  back (list 1)\n", False)):
            paired = ((), entries("0 0 0"))
            self.assertIs(reads_pairing(program, read_change(text), ((), {"main": paired, "sub": paired})), wanted)
            self.assertTrue(reads_pairing(program, read_change(text), ((), {"main": paired})))
        # Also where its row goes on.
        program = read_program("part sub () number\n  go 0\n")
        for gives, wanted in (("number", True), ("truth", False)):
            change = read_change("part sub () " + gives + "\n  go 0\n")
            self.assertIs(reads_pairing(program, change, ((), {"sub": ((), entries("0 0 0"))})), wanted)

    def test_parts_that_call_one_another(self):
        program = read_program("part a () number\n  call x b\n  back x\npart b () number\n  call x a\n  back x\n")
        paired = ((), entries("0 0 0", "1 1 0 x x"))
        self.assertTrue(reads_pairing(program, read_change(""), ((), {"a": paired, "b": paired})))
        self.assertFalse(reads_pairing(program, read_change(""), ((), {"a": paired})))


class Alone(Paired):
    def told(self, old, new, lines, wanted, free=(), otherwise=False):
        parts = {"main": (names(SAME), entries(*lines))}
        if otherwise:
            parts["sub"] = SUB_PAIRED
        self.assertIs(self.reads(old, new, (tuple(free), parts), otherwise), wanted, (new, lines))

    def put_in(self, row, wanted, free=(), otherwise=False, behind="x x", old="  tell x\n  back 0\n"):
        """A row that the new rows have ahead of the old ones."""
        if not otherwise:
            self.told(old, "  " + row + "\n" + old, ["0 0 1 " + SAME, "0 1 0 " + behind, "1 2 0"], wanted, free)
        else:
            self.told(old, "  " + row + "\n" + old, ["0 0 1 " + SAME, "0 1 0 " + behind, "1 2 0"], wanted, free, True)

    def left_out(self, row, wanted, behind="x x", otherwise=False, held=SAME):
        """A row that only the old rows have."""
        rest = "  tell x\n  back 0\n"
        parts = {"main": (names(SAME), entries("0 0 1 " + held, "1 0 0 " + behind, "2 1 0"))}
        if otherwise:
            parts["sub"] = SUB_PAIRED
        self.assertIs(self.reads("  " + row + "\n" + rest, rest, ((), parts), otherwise), wanted, row)

    def test_let_of_a_new_name(self):
        self.put_in("let z 5", True)
        self.put_in("let z (add x y)", True, behind="x x, z (add x y), y y")
        self.put_in("let z (add x y)", False, behind="x x, z (add y x)")
        self.put_in("let z #b", True)
        self.put_in("let z #b", False, behind="x x, z y")
        self.put_in("let z (field p f)", True)
        self.put_in("let y 5", True, behind="x x, y 5")
        self.put_in("let y 5", False, behind="x x, y y")
        self.put_in("let x 5", False)
        self.put_in("let x 5", False, behind="x 5")
        self.put_in("let y x", True, behind="x x, y x")
        self.put_in("let z (list p p)", True)

    def test_what_is_let_may_be_told(self):
        self.told("  tell (add x 1)\n  back 0\n", "  let z (add 1 x)\n  tell z\n  back 0\n",
                  ["0 0 1 x x", "0 1 0 z (add 1 x)", "1 2 0"], True)
        self.told("  tell (add x 1)\n  back 0\n", "  let z (add 2 x)\n  tell z\n  back 0\n",
                  ["0 0 1 x x", "0 1 0 z (add 2 x)", "1 2 0"], False)
        self.told("  tell (add #b 1)\n  back 0\n", "  let z (add #b 1)\n  tell z\n  back 0\n",
                  ["0 0 1 x x", "0 1 0 z z", "1 2 0"], False)

    def test_put_of_a_free_box(self):
        self.put_in("put b x", True, free=("b",))
        self.put_in("put b (add #b (field p f))", True, free=("b",))
        self.put_in("put b x", False)
        self.put_in("put b x", False, free=("c",))
        self.put_in("put b #b", False)
        self.put_in("put fresh 3", True, free=("fresh",), otherwise=True)
        self.put_in("put fresh 3", False, otherwise=True)

    def test_set_of_a_free_field(self):
        self.put_in("set p f x", True, free=(("n", "f"),))
        self.put_in("set p f x", False)
        self.put_in("set p f x", False, free=(("n", "g"),))
        self.put_in("set p g (list p)", True, free=(("n", "g"),))
        self.put_in("set (at #ps 0 p) f 3", True, free=(("n", "f"),))
        self.put_in("set p log 3", True, free=(("n", "log"),), otherwise=True)
        self.put_in("set p log 3", False, free=(("n", "h"),), otherwise=True)

    def test_mark_and_go(self):
        self.put_in("mark here", True)
        self.put_in("go 1", True)

    def test_rows_that_do_not_go_alone(self):
        for row in ("tell x", "tell 0", "unless yes 1", "call z sub 1 2", "new z m k l", "back 0"):
            self.put_in(row, False)
        for row in ("tell 0", "unless yes 1", "call z sub 1 2", "new z m k l", "back 0", "put b #b", "put b 3", "set p f 3"):
            self.left_out(row, False)

    def test_let_that_is_left_out(self):
        self.left_out("let z 5", True)
        self.left_out("let z (field p f)", True, behind="x x, y y, l l")
        self.left_out("let y 5", True)
        self.left_out("let y 5", False, behind="x x, y y")
        self.left_out("let x 5", False)
        self.left_out("let x x", False)

    def test_mark_and_go_that_are_left_out(self):
        self.left_out("mark here", True)
        self.left_out("go 1", True)

    def test_put_of_a_box_that_is_gone(self):
        program = self.program("  put b x\n  tell x\n  back 0\n")
        paired = {"main": (names(SAME), entries("0 0 1 x x", "1 0 0 x x", "2 1 0"))}
        rows = "part main " + TAKES + " number\n  tell x\n  back 0\n"
        self.assertTrue(reads_pairing(program, read_change("out b\n" + rows), ((), paired)))
        self.assertFalse(reads_pairing(program, read_change("out c\n" + rows), ((), paired)))
        self.assertFalse(reads_pairing(program, read_change(rows), (("b",), paired)))

    def test_ranks_fall(self):
        old, new = "  tell x\n  back 0\n", "  mark here\n  mark there\n  tell x\n  back 0\n"
        for ranks, wanted in (("210", True), ("950", True), ("110", False), ("100", False), ("000", False), ("120", False),
                              ("200", False), ("312", False), ("320", True)):
            self.told(old, new, ["0 0 " + ranks[0] + " x x", "0 1 " + ranks[1] + " x x", "0 2 " + ranks[2] + " x x", "1 3 0"],
                      wanted)
        self.told(old, new, ["0 0 0 x x", "0 0 3 x x", "0 1 2 x x", "0 2 0 x x", "1 3 0"], False)
        self.told(old, new, ["0 0 3 x x", "0 1 2 x x", "0 1 9", "0 2 0 x x", "1 3 0"], False)
        self.told("  tell x\n  go 0\n", "  tell x\n  go 0\n", ["0 0 3 x x", "1 1 9 x x"], True)

    def test_rows_round_and_round(self):
        # Nothing but a rank that falls keeps the new rows from going round for ever.
        for rank, wanted in (("0 0 0", False), ("0 0 5", False)):
            self.told("  back 0\n", "  go 0\n", [rank], wanted)
            self.told("  go 0\n", "  back 0\n", [rank], wanted)
        self.told("  go 0\n", "  go 0\n", ["0 0 0"], True)
        self.told("  mark here\n  go 0\n", "  go 0\n", ["0 0 1", "1 0 0"], True)
        self.told("  mark here\n  go 0\n", "  go 0\n", ["0 0 0", "1 0 1"], False)

    def test_each_row_alone_and_both_to_their_entries(self):
        rows = "  let z 3\n  tell x\n  back 0\n"
        self.told(rows, rows, ["0 0 0 x x", "1 1 0 x x, z z", "2 2 0"], True)
        self.told(rows, rows, ["0 0 2 x x", "0 1 1 x x", "1 1 0 x x", "2 2 0"], True)
        self.told(rows, rows, ["0 0 2 x x", "1 0 1 x x", "1 1 0 x x", "2 2 0"], True)
        self.told(rows, rows, ["0 0 2 x x", "0 1 0 x x", "1 1 0 x x", "2 2 0"], False)


class Pairings(Paired):
    PROGRAM = read_program(HEAD + "part main () number\n  let i 0\n  unless (under i #b) 6\n  mark here\n  tell (times i i)\n"
                           "  let i (add i 1)\n  go 1\n  call x sub i #c\n  back x\n" + SUB)
    MAIN = ((), entries("0 0 0", "1 1 0 i i", "2 2 0 i i", "3 3 0 i i", "4 4 0 i i", "5 5 0 i i", "6 6 0 i i", "7 7 0 x x"))
    SUB = (names("a a, d d"), entries("0 0 0 a a, d d"))

    def told(self, pairing, wanted, text=""):
        self.assertIs(reads_pairing(self.PROGRAM, read_change(text), pairing), wanted)

    def with_main(self, *lines, takes=""):
        return ((), {"main": (names(takes), entries(*lines)), "sub": self.SUB})

    def test_a_change_that_changes_nothing(self):
        self.told(((), {"main": self.MAIN, "sub": self.SUB}), True)
        self.told(((), {"sub": self.SUB}), True)
        self.told(((), {}), True)

    def test_no_entry_at_the_beginning(self):
        lines = ["0 0 0", "1 1 0 i i", "2 2 0 i i", "3 3 0 i i", "4 4 0 i i", "5 5 0 i i", "6 6 0 i i", "7 7 0 x x"]
        self.told(self.with_main(*lines), True)
        for k in range(len(lines)):
            self.told(self.with_main(*lines[:k], *lines[k + 1:]), False)
        self.told(self.with_main(), False)
        self.told(self.with_main("0 0 0 i i", *lines[1:]), False)
        self.told(self.with_main("0 0 0 i 0", *lines), True)
        self.told(self.with_main("0 0 0 i 0", *lines[1:]), False)
        self.told(((), {"main": self.MAIN, "sub": (names("a a"), entries("0 0 0 a a, d d"))}), False)

    def test_entries_that_lead_to_none(self):
        lines = ["0 0 0", "1 1 0 i i", "2 2 0 i i", "3 3 0 i i", "4 4 0 i i", "5 5 0 i i", "6 6 0 i i", "7 7 0 x x"]
        for k in range(len(lines)):
            other = lines[:k] + [lines[k].replace(" 0 ", " 0 zz 3, ", 1) if k in (0, 7) else lines[k] + ", zz 3"] + lines[k + 1:]
            if k == 0:
                other[0] = "0 0 0 zz 3"
            self.told(self.with_main(*other), False)
        self.told(self.with_main(*lines, "3 4 0 i i"), False)
        self.told(self.with_main(*lines[:3], "3 3 0", *lines[4:]), False)

    def test_more_entries_that_go_on(self):
        lines = ["0 0 0", "1 1 0 i i", "2 2 0 i i", "3 3 0 i i", "4 4 0 i i", "5 5 0 i i", "6 6 0 i i", "7 7 0 x x"]
        self.told(self.with_main(*lines, "3 3 4 i i", "7 7 0 i i, x x", "7 7 1 x x, zz (add i x)"), True)
        self.told(self.with_main(*lines, "7 7 1 x (add x 1)"), False)

    def test_rows_that_no_way_comes_to(self):
        program = self.program("  back 0\n  tell x\n  let z (field p f)\n  set p f x\n  back x\n")
        change = self.change("  back 0\n  tell x\n  let z (field p f)\n  set p f x\n  back x\n")
        main = ["0 0 0 " + SAME, "1 1 0 x x, p p", "2 2 0 x x, p p", "3 3 0 x x, p p", "4 4 0 x x"]
        self.assertTrue(reads_pairing(program, change, ((), {"main": (names(SAME), entries(*main[:1]))})))
        self.assertTrue(reads_pairing(program, change, ((), {"main": (names(SAME), entries(main[0], main[4]))})))
        # Where no way comes to the old row, nothing has a kind there, and no field can be turned.
        self.assertFalse(reads_pairing(program, change, ((), {"main": (names(SAME), entries(*main))})))
        self.assertFalse(reads_pairing(program, change, ((), {"main": (names(SAME), entries(main[0], "4 4 0 x y"))})))

    def test_rows_that_no_way_comes_to_and_that_are_wrong(self):
        # What such rows name may lack, or be handed too little: they do not go on.
        for row in ("set p f x", "set x f x", "call z sub x", "call z lost", "new z n f x", "new z lost", "call z sub"):
            for other in (row, "set p f x", "call z sub x y", "new z n f x, g (empty n)"):
                for old, new in ((row, other), (other, row)):
                    if old == new == "call z sub x y" or row.split(" ")[0] != other.split(" ")[0]:
                        continue
                    rows = "  back 0\n  {}\n  back 0\n"
                    program, change = self.program(rows.replace("{}", old)), self.change(rows.replace("{}", new))
                    main = (names(SAME), entries("0 0 0", "1 1 0 " + SAME, "2 2 0"))
                    self.assertFalse(reads_pairing(program, change, ((), {"main": main, "sub": self.SUB})), (old, new))
                    main = (names(SAME), entries("0 0 0"))
                    self.assertTrue(reads_pairing(program, change, ((), {"main": main, "sub": self.SUB})))

    def test_kinds_and_parts_of_one_shape(self):
        program = read_program("kind aa\nkind bb\npart main () number\n  new x aa\n  call y one\n  back y\n"
                               "part one () number\n  back 1\npart two () number\n  back 1\n")
        paired = ((), entries("0 0 0"))
        pairing = ((), {"main": ((), entries("0 0 0", "1 1 0 x x", "2 2 0 y y")), "one": paired, "two": paired})
        for made, part, wanted in (("aa", "one", True), ("bb", "one", False), ("aa", "two", False), ("bb", "two", False)):
            change = read_change("part main () number\n  new x " + made + "\n  call y " + part + "\n  back y\n")
            self.assertIs(reads_pairing(program, change, pairing), wanted)
        for made in ("aa", "bb"):
            change = read_change("part main () number\n  new x " + made + "\n  back 0\n")
            self.assertIs(reads_pairing(changed(program, read_change("part main () number\n  new x aa\n  back 0\n")), change,
                                        ((), {"main": ((), entries("0 0 0", "1 1 0"))})), made == "aa")

    def test_names_called_otherwise_a_free_box_and_rows_put_in(self):
        text = ("box log number = 0\npart main () number\n  let tmp 9\n  let j 0\n  put log tmp\n  unless (under j #b) 10\n"
                "  mark other\n  mark here\n  tell (times j j)\n  let j (add j 1)\n  put log (add #log j)\n  go 2\n"
                "  call y sub j #c\n  back y\n" + SUB.replace("a number, d number", "d number, a number"))
        main = ["0 0 1", "0 1 0", "1 2 1 j i", "1 3 0 j i", "2 4 1 j i", "2 5 0 j i", "3 6 0 j i", "4 7 0 j i", "5 8 1 j i",
                "5 9 0 j i", "6 10 0 j i", "7 11 0 y x"]
        sub = (names("a d, d a"), entries("0 0 0 a d, d a"))
        self.told((("log",), {"main": ((), entries(*main)), "sub": sub}), True, text)
        self.told(((), {"main": ((), entries(*main)), "sub": sub}), False, text)
        self.told((("log",), {"main": ((), entries(*main)), "sub": self.SUB}), False, text)
        self.told((("log",), {"main": ((), entries(*main)), "sub": sub}), False, text.replace("(times j j)", "(times j tmp)"))
        self.told((("log",), {"main": ((), entries(*main)), "sub": sub}), False, text.replace("back y", "back j"))
        self.told((("log",), {"main": ((), entries(*main)), "sub": sub}), False, text.replace("(under j #b)", "(under j #log)"))
        self.told((("b", "log"), {"main": ((), entries(*main)), "sub": sub}), False, text)

    def test_kinds_are_by_the_old_paper(self):
        program = read_program("kind n f number\nkind o f number\npart main (p n, o o) number\n  tell (field p f)\n  back 0\n")
        change = read_change("kind n e number, f number\npart main (p n, o o) number\n  tell (field p f)\n  back 0\n"
                             "lead n e f, f 3\n")
        pairs = (names("p p, o o"), entries("0 0 0 p p, o o", "1 1 0"))
        self.assertFalse(reads_pairing(program, change, ((), {"main": pairs})))
        swapped = (names("p o, o p"), entries("0 0 0 p o, o p", "1 1 0"))
        self.assertFalse(reads_pairing(program, change, ((), {"main": swapped})))
        change = read_change("kind n e number, f number\npart main (p n, o o) number\n  tell (field p e)\n  back 0\n"
                             "lead n e f, f 3\n")
        self.assertTrue(reads_pairing(program, change, ((), {"main": pairs})))

    def test_what_is_no_pairing(self):
        good = {"main": self.MAIN, "sub": self.SUB}
        for pairing in ((("lost",), good), ((("n", "lost"),), good), ((("lost", "f"),), good), (("main",), good),
                        ((), {**good, "lost": self.MAIN}), ((), {**good, "b": self.MAIN}), ((),), ((), good, ()), [(), good],
                        ((), {**good, "sub": (names("a a, d x"), self.SUB[1])}),
                        ((), {**good, "sub": (names("a a, d d, e a"), self.SUB[1])}),
                        ((), {**good, "main": ((), self.MAIN[1] + ((8, 0, 0, ()),))}),
                        ((), {**good, "main": ((), self.MAIN[1] + ((0, 8, 0, ()),))}),
                        ((), {**good, "main": ((), self.MAIN[1] + ((7, 7, -1, ()),))}),
                        ((), {**good, "sub": (names("a a, d d"), entries("0 0 0 a a, d d") + ((0, 0, 0, (("a", ("box", "b")),)),))})):
            self.told(pairing, False)
        bare = read_program("part main () number\n  back 0\npart sub (a number) number\n  back 0\n")
        for takes, told, wanted in [
                ((), ((0, 0, 0, ()),), True), (names("a a"), entries("0 0 0 a a"), True), (names("a z"), entries("0 0 0"), False),
                (names("z a"), entries("0 0 0"), False), ((("a", ("box", "b")),), entries("0 0 0"), False),
                ((("a", ("field", ("name", "a"), "f")),), entries("0 0 0"), False), ((), ((0, 0, 0),), False),
                ((), ((0, 0, 0, (), ()),), False), ((), ((0, 0, True, ()),), False), ((), ((False, 0, 0, ()),), False),
                ((), ((0, 0, "0", ()),), False), ((), ((0, 0, 0, ()), (0, 0, 0, (("zz", ("box", "b")),))), False),
                ((), ((0, 0, 0, ()), (0, 0, 0, (("zz", ("add", ("name", "a"), ("box", "b"))),))), False),
                ((), ((0, 0, 0, ()), (0, 0, 0, (("zz", ("name", "zz")),))), True), ((), ((0, 0, 0, ()), (0, 0, 0, ("zz",))), False)]:
            self.assertIs(reads_pairing(bare, read_change(""), ((), {"sub": (takes, told)})), wanted, (takes, told))
        gone = read_change("out sub\npart more () number\n  back 0\n")
        for name, wanted in (("main", True), ("sub", False), ("more", False), ("lost", False), (("main",), False), (1, False)):
            self.assertIs(reads_pairing(bare, gone, ((), {name: ((), ((0, 0, 0, ()),))})), wanted, name)
        for thing in odd_things():
            for pairing in (thing, (thing, good), ((), thing), ((thing,), good), ((), {**good, "sub": thing}),
                            ((), {**good, "sub": (thing, self.SUB[1])}), ((), {**good, "sub": (self.SUB[0], thing)}),
                            ((), {**good, "sub": (self.SUB[0], (thing,) + self.SUB[1])}),
                            ((), {**good, "sub": (self.SUB[0], ((0, 0, 0, thing),) + self.SUB[1])}),
                            ((), {**good, "sub": (self.SUB[0], ((0, 0, thing, ()),) + self.SUB[1])})):
                # Nothing at all may be paired.
                self.told(pairing, isinstance(thing, dict) and pairing == ((), {}))


class Stays(Paired):
    """Old rows, behind their change, beside the same old rows."""

    def told(self, rows, wanted, otherwise=False, free=(), takes=TAKES, parts=None, begun=0, text=None, rest=None, own=None):
        program = self.program(rows)
        if text is not None:
            change = read_change(text)
        elif otherwise:
            change = self.change("  back 0\n", True)
        else:
            change = self.change("  back 0\n")
        part = program[2]["main"]
        ahead = papers_of(program)["main"]
        behind = changed(program, change)
        if rest is None:
            rest = grown(behind, part, begun, ahead[begun])
        pairing = (tuple(free), {"sub": SUB_PAIRED if otherwise else (names("a a, d d"), entries("0 0 0 a a, d d"))}
                   if parts is None else parts)
        kept = copy.deepcopy((program, change, pairing, part, ahead, rest))
        told = stays_paired(program, change, pairing, part, own or ahead, rest)
        self.assertIs(told, wanted, rows)
        self.assertTrue(alike((program, change, pairing, part, ahead, rest), kept))
        self.assertIs(stays_paired(program, change, pairing, part, own or ahead, rest), wanted)

    def test_all_sorts_of_rows(self):
        self.told("  let z (add x #b)\n  put c z\n  set p f (add z (field p f))\n  new q n f z, g (list p)\n  call w sub z y\n"
                  "  tell (add w (field q f))\n  mark here\n  unless (both l #t) 9\n  go 0\n  back w\n", True)

    def test_what_is_led_otherwise(self):
        for row in ("tell #b", "let z #b", "put b x", "put t l", "set p f x", "tell (field p f)", "call z sub #b x",
                    "new z n f x, g (empty n)", "back #b", "unless (same #b 1) 0", "let z (field p f)"):
            self.told("  " + row + "\n  back 0\n", False, text=OTHERWISE.replace(", h number, log number", "").replace(
                "box t number = 1\n", "box t truth = yes\n") + "part main " + TAKES + " number\n  back 0\n"
                + "lead n f (add f 1)\nlead b (times it 2)\nlead t (not it)\n")
            self.told("  " + row + "\n  back 0\n", True)
        for row in ("tell #c", "let z #c", "put c x", "set p g (list p)", "tell x", "let z (field p g)", "new z m k l",
                    "call z sub #c x", "mark here", "unless l 0"):
            self.told("  " + row + "\n  back 0\n", True, text=OTHERWISE.replace(", h number, log number", "").replace(
                "box t number = 1\n", "box t truth = yes\n") + "part main " + TAKES + " number\n  back 0\n"
                + "lead n f (add f 1)\nlead b (times it 2)\nlead t (not it)\n")

    def test_a_field_that_is_led_but_free_or_not_told(self):
        text = "kind n f number, g [n], h number\npart main " + TAKES + " number\n  back 0\nlead n h 3\n"
        self.told("  tell (field p f)\n  set p f x\n  set p g (list p)\n  back 0\n", True, text=text)

    def test_what_is_free(self):
        self.told("  tell #b\n  back 0\n", False, free=("b",))
        self.told("  put b x\n  back 0\n", False, free=("b",))
        self.told("  tell #c\n  back 0\n", True, free=("b",))
        self.told("  tell (field p f)\n  back 0\n", False, free=(("n", "f"),))
        self.told("  set p f x\n  back 0\n", True, free=(("n", "f"),))

    def test_a_part_that_is_not_paired(self):
        self.told("  call z sub x y\n  back 0\n", True)
        self.told("  call z sub x y\n  back 0\n", False, parts={})
        self.told("  call z main x y l p\n  back 0\n", False)
        self.told("  tell x\n  back 0\n", True, parts={})

    def test_how_a_part_is_paired(self):
        sub = "part sub (v number, w number) number\n  back (add w v)\n"
        text = "part main " + TAKES + " number\n  back 0\n" + sub
        for takes, wanted in (("v a, w d", True), ("v d, w a", False), ("v a", True), ("v (add a 1)", False)):
            self.told("  call z sub x y\n  back z\n", wanted, text=text, parts={"sub": (names(takes), entries("0 0 0 " + takes))})

    def test_only_rows_that_the_rest_comes_to(self):
        rows = "  tell #b\n  mark here\n  tell x\n  back x\n"
        text = "box b number = 1\npart main " + TAKES + " number\n  back 0\nlead b 9\n"
        self.told(rows, True, text=text, begun=2)
        self.told(rows, False, text=text, begun=0)
        self.told("  tell x\n  go 0\n  tell #b\n  back 0\n", True, text=text)

    def test_names_that_both_papers_tell(self):
        rows = "  mark here\n  tell x\n  back x\n"
        program = self.program(rows)
        x = (("x", ("number",)),)
        full = papers_of(program)["main"]
        self.told(rows, True, rest=(None, x, x))
        self.told(rows, False, rest=(None, x, ()))
        self.told(rows, False, rest=(None, (), x))
        self.told(rows, False, rest=(None, (), ()))
        self.told(rows, True, rest=(None, x, x), own=(x, x, x))
        self.told(rows, False, rest=(None, x, x), own=(x, x, ()))
        self.told(rows, False, rest=full, own=(x, x, None))
        self.told(rows, True, rest=(None, None, x), own=(None, None, x))
        rows = "  mark here\n  mark there\n  tell x\n  back 0\n"
        self.told(rows, True, rest=(None, x, x, ()))
        self.told(rows, False, rest=(None, (), x, ()))
        self.told(rows, False, rest=(None, x, x, x), own=(x, (), x, ()))

    def test_kinds_are_by_the_frames_own_paper(self):
        rows = "  mark here\n  tell (field p f)\n  back 0\n"
        full = papers_of(self.program(rows))["main"]
        none = tuple(tuple(pair for pair in holding if pair[0] != "p") for holding in full)
        self.told(rows, True, rest=full)
        self.told(rows, False, rest=full, own=none)
        self.told(rows, False, rest=full, own=none[:1] + tuple(
            tuple(sorted(holding + (("p", ("record", "m")),))) for holding in none[1:]))

    def test_made_programs(self):
        for program in made_programs(40):
            papers = papers_of(program)
            pairing = ((), {name: (tuple(sorted((take, ("name", take)) for take, _ in part[0])), ())
                            for name, part in program[2].items()})
            for name, part in program[2].items():
                self.assertTrue(stays_paired(program, read_change(""), pairing, part, papers[name], papers[name]))


if __name__ == "__main__":
    unittest.main()
