"""Pairings that are looked for, and whole runs by them, points 2, 3 and 33."""

import copy
import random
import unittest

from changewhile.changes import changed, is_change
from changewhile.changetexts import read_change
from changewhile.errors import ChangeError, NotNow
from changewhile.lives import Live
from changewhile.pairfinding import find_pairing
from changewhile.pairings import reads_pairing, stays_paired
from changewhile.programtexts import program_text, read_program
from changewhile.rows import read_row
from changewhile.states import begun, run_on
from tests.examples import NUMBER, alike
from tests.making import made_programs
from tests.pairing import Pairer
from tests.test_pairings import entries, names

PROGRAM = read_program("""\
kind n f number, to [n]
kind o
box all [n] = []
box sum number = 4
box unused number = 0
part main (k number) number
  let i 0
  new p n f k, to #all
  unless (under i k) 7
  mark here
  put all (list p)
  set p f (add (field p f) i)
  go 9
  call x sub p #sum
  back (add x (field p f))
  let i (add i 1)
  tell (times i #sum)
  go 2
part sub (p n, add number) number
  put sum (add #sum add)
  mark low
  tell (field p f)
  back (less #sum add)
""")
MAIN, SUB = (program_text(({}, {}, {name: PROGRAM[2][name]})) for name in ("main", "sub"))
MANY = "kind n f number, log number, to [n]\n"
NEWS = MAIN.replace("f k, to #all", "f k, log 8, to #all")


def is_pairing(program, change, thing):
    """Whether a thing is of the shape that [31] tells, each tuple in it sorted."""
    free, parts = thing
    behind = changed(program, change)
    boxes = [one for one in free if isinstance(one, str)]
    fields = [one for one in free if not isinstance(one, str)]
    if list(free) != sorted(boxes) + sorted(fields) or type(free) is not tuple or type(parts) is not dict:
        return False
    if not all(box in behind[1] for box in boxes) or not all(field in dict(behind[0][kind]) for kind, field in fields):
        return False
    for name, (takes, told) in parts.items():
        if name not in program[2] or name not in behind[2]:
            return False
        if list(takes) != sorted(takes) or list(told) != sorted(told) or (type(takes), type(told)) != (tuple, tuple):
            return False
        for r, s, rank, pairs in told:
            if (type(r), type(s), type(rank), type(pairs)) != (int, int, int, tuple) or list(pairs) != sorted(pairs):
                return False
    return True


class Found(unittest.TestCase):
    def found(self, text, *parts, program=PROGRAM):
        """Check that a pairing of just these parts is found, that is read, and alike each time."""
        change = read_change(text)
        kept = copy.deepcopy((program, change))
        told = find_pairing(program, change)
        self.assertTrue(alike((program, change), kept))
        if told is None:
            self.assertEqual(parts, ())
            return None
        self.assertEqual(tuple(sorted(told[1])), parts)
        self.assertTrue(is_pairing(program, change, told))
        self.assertIs(reads_pairing(program, change, told), True)
        again = find_pairing(program, change)
        self.assertTrue(alike(again, told))
        told[1].clear()
        self.assertTrue(alike(find_pairing(program, change), again))
        return again

    def test_parts_that_stay_as_they_are(self):
        for text in ("", MAIN, SUB, program_text(PROGRAM), "box sum number = 9\n", "kind extra\n", "out o\n",
                     "box sum number = 9\nlead sum it\n", "kind n f number, to [n]\nlead n f f\n", "out unused\n"):
            self.found(text, "main", "sub")

    def test_the_found_names(self):
        told = self.found("", "main", "sub")
        self.assertEqual(told[0], ())
        self.assertEqual(told[1]["sub"][0], names("p p, add add"))

    def put(self, *parts, kinds="", boxes="", leads="", found=("main", "sub"), **anew):
        return self.found(change_text_of(anew, kinds, boxes, leads), *found)

    def test_names_called_otherwise(self):
        self.put(main=called(PROGRAM[2]["main"], {"i": "p", "p": "k", "k": "x", "x": "i"}))
        self.put(main=called(PROGRAM[2]["main"], {"i": "q", "p": "i", "x": "zz"}))
        told = self.put(sub=called(PROGRAM[2]["sub"], {"p": "add", "add": "p"}))
        self.assertEqual(told[1]["sub"][0], names("add p, p add"))
        told = self.put(main=called(PROGRAM[2]["main"], {"k": "i", "i": "k"}), sub=called(PROGRAM[2]["sub"], {"p": "o"}))
        self.assertEqual(told[1]["main"][0], names("i k"))

    def test_marks_called_otherwise(self):
        self.found(MAIN.replace("mark here", "mark other"), "main", "sub")

    def test_fields_called_otherwise(self):
        self.found("kind n g number, to [n]\n" + MAIN.replace("p f)", "p g)").replace("p f ", "p g ").replace(
            "n f k", "n g k") + SUB.replace("p f)", "p g)") + "lead n g f\n", "main", "sub")

    def test_fields_that_change_their_names_with_one_another(self):
        program = read_program("kind n a number, b number\npart main () number\n  new p n a 1, b 2\n  set p a (field p b)\n"
                               "  tell (field p a)\n  back (field p b)\n")
        self.found("kind n a number, b number\npart main () number\n  new q n a 2, b 1\n  set q b (field q a)\n"
                   "  tell (field q b)\n  back (field q a)\nlead n a b, b a\n", "main", program=program)

    def test_a_field_more_that_is_free(self):
        told = self.found(MANY + NEWS + "lead n log 5\n", "main", "sub")
        self.assertEqual(told[0], (("n", "log"),))
        self.put(main=put_in(news(), 8, "set p log (add (field p log) x)"), kinds=MANY, leads="lead n log (add f 3)\n")

    def test_a_field_more_that_is_led_as_another_is_called(self):
        # At first it is what f is; but it goes its own way.
        for part in (news(), put_in(news(), 4, "set p log i"), put_in(news(), 8, "set p log (field p log)")):
            told = self.put(main=part, kinds=MANY, leads="lead n log f\n")
            self.assertEqual(told[0], (("n", "log"),))
        # Where it is told in the stead of f, it is not free.
        takes, gives, rows = news()
        rows = rows[:8] + (read_row("back (add x (field p log))"),) + rows[9:]
        self.put(main=(takes, gives, rows), kinds=MANY, leads="lead n log f\n", found=("sub",))

    def test_boxes_that_are_free(self):
        part = PROGRAM[2]["main"]
        told = self.put(main=put_in(part, 5, "put log (add #log i)"), boxes="box log number = 3\n")
        self.assertEqual(told[0], ("log",))
        told = self.put(main=put_in(part, 5, "put unused (add #unused i)"))
        self.assertEqual(told[0], ("unused",))

    def test_rows_put_in(self):
        part = PROGRAM[2]["main"]
        for at in range(len(part[2])):
            for row in ("let zz 4", "let zz (add #sum 1)", "mark more", "put log 4"):
                for to_it in (False, True):
                    self.put(main=put_in(part, at, row, to_it), boxes="box log number = 0\n")

    def test_rows_that_let_what_the_row_behind_lets(self):
        part = PROGRAM[2]["main"]
        for at, row in ((0, "let zz 0"), (9, "let zz (add i 1)"), (4, "let zz (list p)")):
            self.put(main=put_in(put_in(part, at, row), at, row))
        self.put(main=put_in(called(part, {"i": "j"}), 0, "let i 0"))
        self.put(main=put_in(put_in(called(part, {"i": "j"}), 9, "let i (add j 1)"), 0, "let i 0"))

    def test_several_rows_put_in_and_names_called_otherwise(self):
        part = PROGRAM[2]["main"]
        for at, row in ((11, "let za (add i 1)"), (9, "mark mm"), (9, "put log i"), (8, "let za x"), (5, "put log (add #log zb)"),
                        (5, "let zb i"), (2, "mark mn"), (0, "let zc (list 1 2)")):
            part = put_in(part, at, row, at % 2 == 0)
        self.put(main=part, boxes="box log number = 0\n")
        self.put(main=called(part, {"i": "x", "x": "p", "p": "i"}), boxes="box log number = 0\n")

    def test_a_name_for_what_is_told_twice(self):
        # No such rows are promised, but they are found.
        program = read_program("part main (a number, b number) number\n  tell (add a b)\n  back (times (add b a) 2)\n")
        self.found("part main (a number, b number) number\n  let s (add a b)\n  tell s\n  back (add s s)\n", "main",
                   program=program)
        self.found("part main (a number, b number) number\n  let s (add a b)\n  tell s\n  back (add s 1)\n",
                   program=program)

    def test_a_part_otherwise(self):
        self.found(SUB.replace("(field p f)", "(add (field p f) 1)"))
        self.found(MAIN.replace("(times i #sum)", "(times i i)"), "sub")
        self.found(MAIN.replace("let i 0", "let i 1"), "sub")
        self.found(MAIN.replace("set p f (add (field p f) i)", "set p f (add (field p f) 1)"), "sub")
        self.found(SUB.replace("less", "add"))
        self.found(MAIN.replace("tell (times i #sum)\n  go 2", "go 2"), "sub")
        self.found("out sub\n" + MAIN.replace("  call x sub p #sum\n", "  let x 1\n"))

    def test_another_gives(self):
        program = read_program("part main () number\n  back 0\npart sub () number\n  back 0\n")
        self.found("part sub () truth\n  back yes\n", "main", program=program)
        self.found("part main () truth\n  back yes\npart sub () truth\n  back yes\n", program=program)

    def test_a_box_that_is_led_otherwise(self):
        self.found("box sum number = 1\nlead sum (add it 1)\n")
        program = read_program("box b number = 1\npart main () number\n  tell #b\n  put b 4\n  back #b\npart sub () number\n"
                               "  back 3\n")
        self.found("box b number = 1\nlead b (add it 1)\n", "sub", program=program)

    def test_takes_otherwise(self):
        sub = "part sub (p n, add number, more truth) number\n" + SUB.split("\n", 1)[1]
        self.found(MAIN.replace("p #sum", "p #sum yes") + sub, "main", "sub")

    def test_takes_that_do_not_hold(self):
        program = read_program("part main (k number) number\n  call x sub k 1\n  call y sub x k\n  back y\n"
                               "part sub (a number, b number) number\n  tell a\n  back a\n")
        told = self.found("part main (k number) number\n  call x sub k 2\n  call y sub x k\n  back y\n", "main", "sub",
                          program=program)
        self.assertEqual(told[1]["sub"][0], names("a a"))
        self.found("part main (k number) number\n  call x sub 2 1\n  call y sub x k\n  back y\n", "sub", program=program)
        more = program_text(program) + "part two (k number) number\n  call x sub k 3\n  back x\n"
        self.found("part two (k number) number\n  call x sub k 4\n  back x\n", "main", "sub", "two",
                   program=read_program(more))
        self.found("part two (k number) number\n  call x sub 1 3\n  back x\n", "main", "sub", program=read_program(more))

    def test_lets_in_another_order(self):
        program = read_program("part main (k number) number\n  let a 1\n  tell (add k 3)\n  tell a\n  back a\n")
        self.found("part main (k number) number\n  let s (add k 3)\n  let a 1\n  tell s\n  tell a\n  back a\n", "main",
                   program=program)
        self.found("part main (k number) number\n  let s (add k 4)\n  let a 1\n  tell s\n  tell a\n  back a\n",
                   program=program)

    def test_names_for_what_grows_and_grows(self):
        program = read_program("part main (sz number) number\n  tell (times 33554432 sz)\n  back 0\n")
        letters = "zabcdefghijklmnopqrstuvwxy"
        rows = ["  let s{} (add s{} s{})\n".replace("{}", letters[k + 1], 1).replace("{}", letters[k]) for k in range(25)]
        for many in (3, 25):
            text = "part main (sz number) number\n" + "".join(rows[:many]) + "  tell s{}\n  back 0\n"
            told = find_pairing(program, read_change(text.replace("{}", letters[many])))
            self.assertTrue(told is None or reads_pairing(program, read_change(text.replace("{}", letters[many])), told))
        self.found("part main (sz number) number\n" + "".join(rows[:3])
                   + "  tell (times 4194304 sd)\n  back 0\n".replace("sd", "s" + letters[3]), "main", program=program)

    def test_marks(self):
        program = read_program("part main () number\n  mark a\n  tell 1\n  mark b\n  go 0\n")
        for rows in ("  mark b\n  tell 1\n  mark a\n  go 0\n", "  tell 1\n  mark b\n  go 0\n", "  tell 1\n  go 0\n",
                     "  mark z\n  mark a\n  tell 1\n  mark y\n  mark b\n  mark x\n  go 1\n",
                     "  mark z\n  tell 1\n  mark y\n  go 0\n", "  mark b\n  mark a\n  tell 1\n  go 0\n"):
            self.found("part main () number\n" + rows, "main", program=program)
        program = read_program("part main () number\n  mark a\n  go 0\n")
        for rows in ("  mark b\n  go 0\n", "  go 0\n", "  mark b\n  mark a\n  let x 1\n  go 1\n"):
            self.found("part main () number\n" + rows, "main", program=program)

    def test_rows_round_and_round_that_say_nothing(self):
        program = read_program("part main () number\n  let x 1\n  go 0\n")
        self.found("part main () number\n  let y 2\n  let y 3\n  go 1\n", "main", program=program)
        self.found("part main () number\n  mark a\n  unless yes 0\n  back 0\n", program=program)
        # Gos alone may not go round.
        self.found("part main () number\n  go 1\n  go 2\n  go 0\n", "main", program=program)
        program = read_program("part main () number\n  back 0\n")
        self.found("part main () number\n  go 1\n  go 0\n", program=program)
        self.found("part main () number\n  go 1\n  go 2\n  back 0\n", "main", program=program)

    def test_what_is_free_by_what_is_written(self):
        program = read_program("kind m g number\nkind n f number\nbox b number = 1\nbox c number = 2\n"
                               "part main () number\n  new p n f 1\n  new q m g 2\n  set p f 3\n  put b 4\n  tell #b\n"
                               "  back (field q g)\n")
        head = "part main () number\n  new p n a 1, log 9\n  new q m g 2\n"
        # a is what f was, and is set as f was; log is led as f, too, but set otherwise.
        text = "kind n a number, log number\n" + head + "  set p log 7\n  set p a 3\n  put c 9\n  put b 4\n  tell #b\n"
        told = self.found(text + "  put c (add #c #b)\n  back (field q g)\nlead n a f, log f\n", "main", program=program)
        self.assertEqual(told[0], ("c", ("n", "log")))
        # What is reckoned in what is told is not free, be it without bearing on it.
        self.found(text + "  put c (add #c #b)\n  back (less (add (field q g) #c) #c)\nlead n a f, log f\n", program=program)
        self.found(text + "  put b 5\n  back (field q g)\nlead n a f, log f\n", program=program)
        self.found(text + "  back (add (field q g) #c)\nlead n a f, log f\n", program=program)
        # A field that stays, while all rows go by one that is led as it was.
        program = read_program("kind n f number\npart main () number\n  new p n f 1\n  set p f 3\n  back (field p f)\n")
        told = self.found("kind n f number, g number\npart main () number\n  new p n f 0, g 1\n  set p g 3\n"
                          "  back (field p g)\nlead n g f\n", "main", program=program)
        self.assertEqual(told[0], (("n", "f"),))

    def test_what_is_free_and_what_is_led_otherwise(self):
        program = read_program("kind m g number\nkind n f number\nbox b number = 1\nbox c number = 2\n"
                               "part main () number\n  new p n f 1\n  new q m g 2\n  set p f 3\n  put b 4\n  tell #b\n"
                               "  back (field q g)\n")
        # One field is free, another one is led otherwise and told.
        text = ("kind m g number, h number\nkind n f number, log number\npart main () number\n  new p n f 1, log 3\n"
                "  new q m g 7, h 2\n  set p f 3\n  set p log (field q g)\n  put b 4\n  tell #b\n  back (less (field q g) 5)\n"
                "lead m g (add g 5), h g\nlead n log 0\n")
        self.found(text, "main", program=program)

    def test_programs_without_parts(self):
        self.assertIn(find_pairing(({}, {}, {}), read_change("")), (None, ((), {})))
        self.found("out main\nout sub\n")

    def test_what_is_told_and_what_is_handed_in(self):
        program, change = copy.deepcopy(PROGRAM), read_change(MANY + NEWS + "lead n log 5\n")
        told = find_pairing(program, change)
        kept = copy.deepcopy(told)
        for things in (*program, *change[1:]):
            things.clear()
        self.assertTrue(alike(told, kept))

    def test_twenty_parts_of_sixty_rows(self):
        kinds, parts = ["p" + letter for letter in "abcdefghijklmnopqrst"], {}
        for k, name in enumerate(kinds):
            rows = [("let", "y", ("add", ("name", "x"), ("number", k)))]
            for r in range(13):
                rows += [("tell", ("times", ("name", "x"), ("number", r))), ("let", "z", ("add", ("name", "y"), ("box", "b"))),
                         ("unless", ("under", ("name", "z"), ("number", 9)), 4 * r + 1), ("put", "b", ("name", "z"))]
            rows += [("call", "w", kinds[(k + 1) % 20], (("name", "y"),)), ("mark", "m" + name), ("back", ("name", "w"))]
            parts[name] = ((("x", NUMBER),), NUMBER, tuple(rows))
        program = ({}, {"b": (NUMBER, 1)}, parts)
        for ways in (("names",), ("names", "free")):
            change = Pairer(3, ways).change(program)
            told = find_pairing(program, change)
            self.assertEqual(sorted(told[1]), kinds)
            self.assertTrue(reads_pairing(program, change, told))


def put_in(part, at, row, to_it=False):
    """The part with a row put in, its ways leading to where they led, or to the row put in right ahead of it."""
    takes, gives, rows = part

    def led(n):
        return n + 1 if n > at or n == at and not to_it else n

    rows = [("go", led(one[1])) if one[0] == "go" else ("unless", one[1], led(one[2])) if one[0] == "unless" else one
            for one in rows]
    return (takes, gives, tuple(rows[:at] + [read_row(row)] + rows[at:]))


def called(part, other):
    """The part with its names called otherwise."""
    pairer = Pairer(0, ())
    pairer.program, pairer.holding = PROGRAM, ()
    pairer.called = {name: other.get(name, name) for name in "abcdefghijklmnopqrstuvwxyz"} | {
        name: other.get(name, name) for name in ("add", "za", "zb", "zc")}
    takes, gives, rows = part
    return (tuple((pairer.called[take], kind) for take, kind in takes), gives,
            tuple(pairer.renamed(row, {}) for row in rows))


def news():
    """The part main with one field more in what it makes."""
    takes, gives, rows = PROGRAM[2]["main"]
    return (takes, gives, rows[:1] + (read_row("new p n f k, log 8, to #all"),) + rows[2:])


def change_text_of(parts, kinds="", boxes="", leads=""):
    """The text of a change that puts such parts and what else is told."""
    return kinds + boxes + program_text(({}, {}, parts)) + leads


def put_otherwise(thing, chance):
    """A thing of tuples with one leaf of it made otherwise."""
    if not isinstance(thing, tuple) or not thing:
        if isinstance(thing, bool):
            return not thing
        if isinstance(thing, int):
            return max(0, thing + chance.choice((-1, 1)))
        return chance.choice("abcdpq") if isinstance(thing, str) and len(thing) < 3 else thing
    k = chance.randrange(len(thing))
    return thing[:k] + (put_otherwise(thing[k], chance),) + thing[k + 1:]


class WholeRuns(unittest.TestCase):
    def setUp(self):
        self.chance = random.Random(33)

    def entered(self, program, change, pairing, way):
        """A live run into which the change came where all rests stay paired, or None."""
        live = Live(program, "main", ())
        for _ in range(80):
            if live.mark():
                try:
                    rests = live.look(change)
                except NotNow:
                    rests = None
                frames = live.state()[2]
                if rests is not None and all([stays_paired(program, change, pairing, frames[k][1], live.own[k], rests[k])
                                              for k in range(len(frames))]):
                    live.enter(change, way)
                    return live
            live.step()
        return None

    def says_the_same(self, program, change, pairing):
        """Whether the change came in; then it is checked that the run says the words of the run without it."""
        live = self.entered(program, change, pairing, self.chance.choice(("once", "touch")))
        if live is None:
            return False
        for _ in range(150):
            live.step()
        _, _, _, words, end = live.state()
        whole = run_on(program, begun(program, "main", ()), 900)
        if end is None:
            many = min(len(words), len(whole[3]))
            self.assertTrue(alike(words[:many], whole[3][:many]))
        else:
            self.assertTrue(alike((words, end), (whole[3], whole[4])))
        return True

    def test_what_is_found(self):
        ran = 0
        for seed, program in enumerate(made_programs(50)):
            for ways in (("names",), ("fields", "free"), ("rows", "names"), ("led", "rows"),
                         ("names", "fields", "free", "rows")):
                change = Pairer(seed, ways).change(program)
                pairing = find_pairing(program, change)
                self.assertEqual(sorted(pairing[1]), sorted(program[2]))
                self.assertTrue(is_pairing(program, change, pairing))
                self.assertTrue(reads_pairing(program, change, pairing))
                ran += self.says_the_same(program, change, pairing)
        self.assertGreater(ran, 50)

    def test_pairings_made_otherwise(self):
        read = ran = 0
        for seed, program in enumerate(made_programs(40)):
            change = Pairer(seed, ("names", "fields", "free", "rows")).change(program)
            pairing = find_pairing(program, change)
            for _ in range(8):
                name = self.chance.choice(sorted(pairing[1]))
                takes, told = pairing[1][name]
                k = self.chance.randrange(len(told))
                other = tuple(sorted(told[:k] + told[k + 1:] + (put_otherwise(told[k], self.chance),)))
                other = (pairing[0], {**pairing[1], name: (takes, other)})
                if reads_pairing(program, change, other):
                    read += 1
                    ran += self.says_the_same(program, change, other)
        self.assertGreater(min(read, ran), 10)

    def test_changes_made_otherwise(self):
        read = ran = 0
        for seed, program in enumerate(made_programs(40)):
            ways = self.chance.choice((("names",), ("rows",), ("led", "free"), ("fields", "free"), ("names", "rows", "free")))
            change = Pairer(seed, ways).change(program)
            pairing = find_pairing(program, change)
            for _ in range(6):
                name = self.chance.choice(sorted(change[3]))
                takes, gives, rows = change[3][name]
                k = self.chance.randrange(len(rows))
                rows = rows[:k] + (put_otherwise(rows[k], self.chance),) + rows[k + 1:]
                other = (*change[:3], {**change[3], name: (takes, gives, rows)}, *change[4:])
                try:
                    if not is_change(other):
                        continue
                    changed(program, other)
                except ChangeError:
                    continue
                for told in (pairing, find_pairing(program, other)):
                    if told is not None and reads_pairing(program, other, told):
                        read += 1
                        ran += self.says_the_same(program, other, told)
        self.assertGreater(min(read, ran), 40)

    def test_a_run_to_its_end(self):
        part = put_in(put_in(called(news(), {"i": "x", "x": "p", "p": "i"}), 9, "put trace x"), 4, "set i log x")
        change = read_change(change_text_of({"main": part, "sub": called(PROGRAM[2]["sub"], {"add": "p", "p": "q"})}, MANY,
                                            "box trace number = 0\n", "lead n log 3\n"))
        pairing = find_pairing(PROGRAM, change)
        self.assertEqual(sorted(pairing[1]), ["main", "sub"])
        whole = run_on(PROGRAM, begun(PROGRAM, "main", (4,)), 500)
        self.assertEqual(whole[4][0], "back")
        for way in ("once", "touch"):
            for mark in ("here", "low"):
                live = Live(PROGRAM, "main", (4,))
                while live.mark() != mark:
                    live.step()
                self.enter(live, change, pairing, way)
                for _ in range(100):
                    live.step()
                self.assertTrue(alike(live.state()[3:], whole[3:]))

    def enter(self, live, change, pairing, way):
        rests, frames = live.look(change), live.state()[2]
        for k, frame in enumerate(frames):
            self.assertTrue(stays_paired(PROGRAM, change, pairing, frame[1], live.own[k], rests[k]))
        live.enter(change, way)

    def test_a_pairing_of_what_is_led_otherwise(self):
        # Behind the change the box has one more, and sub is handed what it gave.
        program = read_program("box b number = 3\npart main () number\n  let k 0\n  mark here\n  call k work k\n"
                               "  unless (under 400 k) 1\n  back k\npart sub (a number) number\n  back (add a 1)\n"
                               "part work (k number) number\n  call x sub #b\n  tell x\n  put b (add #b x)\n  back (add k #b)\n")
        change = read_change("box b number = 3\npart sub (c number) number\n  back c\n"
                             "part work (k number) number\n  call y sub #b\n  tell y\n  put b (add y #b)\n"
                             "  back (less (add #b k) 1)\nlead b (add it 1)\n")
        pairing = ((), {
            "main": ((), entries("0 0 0", "1 1 0 k k", "2 2 0 k k", "3 3 0 k k", "4 4 0 k k")),
            "sub": (names("c (add a 1)"), entries("0 0 0 c (add a 1)")),
            "work": (names("k k"), entries("0 0 0 k k", "1 1 0 k k, y x", "2 2 0 k k, y x", "3 3 0 k k"))})
        self.assertTrue(reads_pairing(program, change, pairing))
        self.assertTrue(self.says_the_same(program, change, pairing))
        for name in ("sub", "work", "main"):
            other = {one: pairing[1][one] for one in pairing[1] if one != name}
            self.assertIs(reads_pairing(program, change, ((), other)), name == "main")
        wrong = (*change[:3], {**change[3], "sub": program[2]["sub"]}, *change[4:])
        self.assertFalse(reads_pairing(program, wrong, pairing))


if __name__ == "__main__":
    unittest.main()
