"""Live runs: programs changed while they run, points 2, 3, 26, 27 and 28."""

import copy
import unittest

from changewhile.changes import changed
from changewhile.changetexts import read_change
from changewhile.errors import ChangeError, NoFit, NoLead, NotNow, NotRight, Stuck
from changewhile.kinding import is_there
from changewhile.leading import led
from changewhile.lives import Live
from changewhile.papers import grown, papers_of, wrong_rows
from changewhile.programtexts import read_program
from changewhile.reckoning import worth
from changewhile.states import begun, fits, run_on, stepped
from changewhile.terms import parts_of
from tests.changing import Changer
from tests.examples import NUMBER, TRUTH, alike
from tests.making import made_programs
from tests.test_looking import at_mark

WHOLE = read_program("""\
kind node n number, to [node]
kind unit
box all [node] = []
box many number = 3
part deep (k number, t truth) truth
  unless (under 0 k) 3
  call s deep (less k 1) t
  back s
  mark low
  back t
part main (k number) number
  mark top
  new p node n k, to (empty node)
  call s deep k yes
  let i 0
  mark loop
  unless (under i #many) 8
  let i (add i 1)
  go 4
  mark held
  tell (field p n)
  back (add i (field p n))
""")


def live_at(mark, program=WHOLE, start="main", values=(2,)):
    """A live run that has just come to a mark."""
    live = Live(program, start, values)
    while live.mark() != mark:
        live.step()
    return live


def touched(program, state):
    """The boxes' names and the refs that the step to come touches, by the very words of the document."""
    boxes, records, frames, _, end = state
    if end is not None:
        return set()
    _, part, r, held = frames[-1]
    row, found = part[2][r], set()
    todo = []
    if row[0] == "put":
        found.add(row[1])
    if row[0] == "set":
        found.add(worth(row[1], held, boxes, records))
    for thing in row[1:]:
        if isinstance(thing, tuple) and row[0] == "new":
            todo.extend(term for _, term in thing)
        elif isinstance(thing, tuple) and row[0] == "call":
            todo.extend(thing)
        elif isinstance(thing, tuple):
            todo.append(thing)
    while todo:
        term = todo.pop()
        if term[0] == "box":
            found.add(term[1])
        if term[0] == "field":
            found.add(worth(term[1], held, boxes, records))
        todo.extend(parts_of(term))
    return found


class Model:
    """What a live run is to tell, made slowly of what the other modules tell."""

    def __init__(self, program, start, values):
        self.program, self.state = program, begun(program, start, values)
        self.papers = [papers_of(program)[start]]
        self.came = [self.papers[0][0]]
        self.sleepers = set()

    def step(self):
        self.sleepers -= touched(self.program, self.state)
        many = len(self.state[2])
        self.state = stepped(self.program, self.state)
        frames = self.state[2]
        if self.state[4] is not None:
            return
        if len(frames) > many:
            self.papers.append(papers_of(self.program)[frames[-1][0]])
            self.came.append(None)
        del self.papers[len(frames):], self.came[len(frames):]
        self.came[-1] = self.papers[-1][frames[-1][2]]

    def looked(self, change):
        """The papers of all frames, or the pair of a NotNow."""
        behind = changed(self.program, change)
        frames = self.state[2]
        if at_mark(self.state) is None:
            return (-1, -1)
        papers = []
        for k, (_, part, r, _) in enumerate(frames):
            begins = dict(self.came[k])
            if part[2][r][0] == "call":
                begins[part[2][r][1]] = frames[k + 1][1][1]
            if not all(is_there(kind, behind) for kind in begins.values()):
                return (k, r)
            papers.append(grown(behind, part, r + 1, tuple(sorted(begins.items()))))
            if wrong_rows(behind, part, papers[-1]):
                return (k, wrong_rows(behind, part, papers[-1])[0])
        return papers

    def enter(self, change, way):
        papers = self.looked(change)
        if isinstance(papers, tuple):
            return papers
        outs, kinds, boxes, _, kindleads, boxleads = change
        names = {ref: name for ref, (name, _) in self.state[1].items()}
        anew = [name for name in kinds if name in self.program[0]]
        self.sleepers -= set(outs) | {ref for ref in names if names[ref] in outs}
        if way == "once":
            self.sleepers -= set(boxes) | {ref for ref in names if names[ref] in anew}
        else:
            sleepy = [name for name in anew if kindleads.get(name) or kinds[name] != self.program[0][name]]
            self.sleepers |= set(boxleads) | {ref for ref in names if names[ref] in sleepy}
        self.state = led(self.program, change, self.state)
        self.program = changed(self.program, change)
        self.papers = papers
        return None

    def old(self):
        return [k for k, (name, part, _, _) in enumerate(self.state[2]) if self.program[2].get(name) != part]


class Told(unittest.TestCase):
    def alike_with(self, live, model):
        self.assertTrue(alike(live.program(), model.program))
        self.assertTrue(alike(live.state(), model.state))
        self.assertEqual(live.mark(), at_mark(model.state))
        self.assertEqual(live.asleep(), sorted(model.sleepers))
        self.assertEqual(live.old(), model.old())

    def refused(self, live, text, error, *values):
        """Check that a change is refused, by look and by enter, and that behind this nothing has changed."""
        change = read_change(text)
        kept = self.all_of(live)
        for ask in (live.look, live.enter, lambda change: live.enter(change, "touch")):
            with self.assertRaises(ValueError) as caught:
                ask(change)
            self.assertIs(type(caught.exception), error)
            self.assertIsInstance(caught.exception, ChangeError)
            self.assertEqual(tuple(vars(caught.exception).values()), values)
            self.assertTrue(alike(self.all_of(live), kept))

    def all_of(self, live):
        return [live.program(), live.state(), live.mark(), live.asleep(), live.old(), live.waiting(), live.dropped()]


class Made(Told):
    def test_a_run(self):
        live = Live(WHOLE, "main", (2,))
        state = begun(WHOLE, "main", (2,))
        for _ in range(80):
            self.assertTrue(alike(live.program(), WHOLE))
            self.assertTrue(alike(live.state(), state))
            self.assertEqual(live.mark(), at_mark(state))
            self.assertEqual((live.asleep(), live.old(), live.waiting(), live.dropped()), ([], [], 0, 0))
            self.assertIsNone(live.step())
            state = stepped(WHOLE, state)
        self.assertEqual(state[3:], ((2,), ("back", 5)))

    def test_marks(self):
        live, marks = Live(WHOLE, "main", (1,)), []
        while live.state()[4] is None:
            marks.append(live.mark())
            live.step()
        self.assertEqual([mark for mark in marks if mark], ["top", "low", "loop", "loop", "loop", "loop", "held"])
        self.assertEqual(marks[:2], ["top", None])
        self.assertIsNone(live.mark())
        live.step()
        self.assertIsNone(live.mark())
        live = Live(read_program("part main () number\n  mark here\n  call x main\n  back x\n"), "main", ())
        for _ in range(200):
            live.step()
        self.assertEqual((live.state()[4], live.mark(), len(live.state()[2])), (("deep",), None, 60))

    def test_programs_that_are_not_right(self):
        wrong = read_program("kind a n lost\npart main (x number) number\n  tell yes\n  back x\n")
        for start, values in (("main", (1,)), ("lost", ()), ("main", ())):
            with self.assertRaises(NotRight) as caught:
                Live(wrong, start, values)
            self.assertEqual((caught.exception.name, caught.exception.row), ("a", -1))
        wrong[0]["a"] = ()
        with self.assertRaises(NotRight) as caught:
            Live(wrong, "main", (1,))
        self.assertEqual((caught.exception.name, caught.exception.row), ("main", 0))

    def test_starts_that_are_stuck(self):
        for start, values in [("lost", ()), ("node", (1,)), ("many", ()), ("main", ()), ("main", (1, 1)), ("main", (True,)),
                              ("main", ((),)), ("deep", (1,)), ("deep", (True, 1)), ("deep", (1, 1)), ("deep", (1, True, 1))]:
            with self.assertRaises(Stuck) as caught:
                Live(WHOLE, start, values)
            self.assertEqual((caught.exception.name, caught.exception.row), (start, -1))
            self.assertIsInstance(caught.exception, ChangeError)

    def test_what_is_told_is_the_askers(self):
        live = Live(WHOLE, "main", (2,))
        for _ in range(30):
            kept = self.all_of(live)
            for things in live.program():
                things.clear()
            boxes, records, frames, _, _ = live.state()
            for things in (boxes, records, *[frame[3] for frame in frames], live.asleep(), live.old()):
                things.clear()
            self.assertTrue(alike(self.all_of(live), kept))
            live.step()

    def test_what_is_handed_in_stays_and_may_be_emptied(self):
        program = copy.deepcopy(WHOLE)
        text = ("kind node m number, n number, to [node]\nbox many number = 4\npart main (k number) number\n  back 0\n"
                "lead node m n\nlead many (add it 1)\n")
        for way in ("once", "touch"):
            live = live_at("loop", program)
            self.assertTrue(alike(program, WHOLE))
            change = read_change(text)
            live.look(change)
            live.wait(change, way)
            self.assertTrue(alike(change, read_change(text)))
            for things in change[1:]:
                things.clear()
            live.step()
            self.assertEqual((live.waiting(), live.dropped()), (0, 0))
            other = live_at("loop")
            change = read_change(text)
            other.enter(change, way)
            self.assertTrue(alike(change, read_change(text)))
            for things in change[1:]:
                things.clear()
            other.step()
            self.assertTrue(alike(self.all_of(live), self.all_of(other)))
        live = Live(program, "main", (2,))
        for things in program:
            things.clear()
        for _ in range(60):
            live.step()
        self.assertEqual(live.state()[4], ("back", 5))
        self.assertTrue(alike(live.program(), WHOLE))


class Look(Told):
    def test_a_paper_for_each_frame(self):
        live = live_at("low")
        k, p, s, i, t = ("k", NUMBER), ("p", ("record", "node")), ("s", TRUTH), ("i", NUMBER), ("t", TRUTH)
        main = (None,) * 3 + ((k, p, s),) + ((i, k, p, s),) * 7
        self.assertTrue(alike(live.look(read_change("")), (
            main, (None, None, (k, s, t), None, None), (None, None, (k, s, t), None, None), (None,) * 4 + ((k, t),))))
        self.assertTrue(alike(live_at("loop").look(read_change("")), ((None,) * 4 + ((i, k, p, s),) * 7,)))
        self.assertTrue(alike(live_at("held").look(read_change("")), ((None,) * 9 + ((i, k, p, s),) * 2,)))

    def test_it_changes_nothing_and_tells_alike(self):
        live = live_at("low")
        for text in ("", "out unit\n", "box many number = 1\nlead many (add it 1)\n"):
            kept = self.all_of(live)
            told = live.look(read_change(text))
            self.assertIs(type(told), tuple)
            self.assertTrue(alike(live.look(read_change(text)), told))
            self.assertTrue(alike(self.all_of(live), kept))

    def test_refused_as_changed(self):
        for live in (live_at("low"), live_at("top"), live_at("loop"), Live(WHOLE, "deep", (1, True))):
            self.refused(live, "out lost\n", NoFit, "lost")
            self.refused(live, "kind node n truth\n", NoLead, "node", "n")
            self.refused(live, "box many truth = yes\n", NoLead, "many", "")
            self.refused(live, "out many\n", NotRight, "main", 5)
            self.refused(live, "out lost\nkind node n truth\nbox many truth = 1\n", NoFit, "lost")
            self.refused(live, "kind node n truth\nbox many number = yes\n", NoLead, "node", "n")

    def test_at_no_mark_and_behind_the_end(self):
        live = Live(WHOLE, "main", (2,))
        for _ in range(60):
            if live.mark() is None:
                self.refused(live, "", NotNow, -1, -1)
                self.refused(live, "box many number = 1\n", NotNow, -1, -1)
                self.refused(live, "out lost\n", NoFit, "lost")
            live.step()
        self.assertEqual(live.state()[4], ("back", 5))

    def test_the_first_frame_whose_rest_is_wrong_and_its_row(self):
        deep = "part deep (k number, t truth) truth\n  back t\n"
        main = "part main (k number) number\n  back 0\n"
        self.refused(live_at("low"), "out many\n" + main, NotNow, 0, 5)
        self.refused(live_at("loop"), "out many\n" + main, NotNow, 0, 5)
        live_at("held").enter(read_change("out many\n" + main))
        self.refused(live_at("low"), "out all\nout node\n" + main, NotNow, 0, 2)
        self.refused(live_at("held"), "out all\nout node\n" + main, NotNow, 0, 8)
        self.refused(live_at("top"), "out all\nout node\n" + main, NotNow, 0, 1)
        self.refused(live_at("top"), "out deep\n" + main, NotNow, 0, 2)
        for mark in ("low", "loop", "held"):
            live_at(mark).enter(read_change("out deep\n" + main))
        live_at("low").enter(read_change(deep))
        program = read_program("box b number = 0\npart aa () number\n  call x main\n  tell #b\n  back x\n"
                               "part main () number\n  call x sub\n  back x\npart sub () number\n  mark here\n"
                               "  tell #b\n  back 1\n")
        bare = "".join("part " + name + " () number\n  back 0\n" for name in ("aa", "sub"))
        self.refused(live_at("here", program, "main", ()), "out b\n" + bare, NotNow, 1, 1)
        self.refused(live_at("here", program, "aa", ()), "out b\n" + bare, NotNow, 0, 1)

    def test_a_kind_held_at_a_call_and_given_by_it(self):
        program = read_program("kind one\nkind two\npart main () number\n  new a one\n  new x two\n  call x sub\n  let a 0\n"
                               "  let x 0\n  back x\npart sub () two\n  new z two\n  let y z\n  let z 0\n  mark here\n"
                               "  back y\n")
        bare = "part main () number\n  back 0\npart sub () number\n  back 0\n"
        live = live_at("here", program, "main", ())
        self.refused(live, "out one\n" + bare, NotNow, 0, 2)
        self.refused(live, "out two\n" + bare, NotNow, 0, 2)
        live = live_at("here", program, "sub", ())
        self.refused(live, "out two\n" + bare, NotNow, 0, 3)
        live.enter(read_change("out one\n" + bare))


class Enter(Told):
    def test_an_old_frame_beside_new_ones(self):
        program = read_program("box b number = 5\npart main () number\n  let n 0\n  mark here\n  call x sub n\n  tell x\n"
                               "  let n (add n 1)\n  go 1\npart sub (n number) number\n  back (times n #b)\n")
        live = live_at("here", program, "main", ())
        for way, text in (("once", "part sub (m number) number\n  back (add m 100)\n"),
                          ("touch", "part main () number\n  back 9\npart sub (m number) number\n  back (add m 200)\n"),
                          ("once", "box b number = 0\npart sub (m number) number\n  let y #b\n  back y\nlead b (add it 1)\n"
                           ), ("touch", "box b number = 0\nlead b (add it 10)\n")):
            live.enter(read_change(text), way=way)
            for _ in range(7 if way == "once" and "let y" in text else 6):
                live.step()
            while live.mark() is None:
                live.step()
        self.assertEqual(live.state()[3], (100, 201, 6, 16))
        self.assertTrue(alike(live.state()[2][0][1], program[2]["main"]))
        self.assertEqual(live.old(), [0])

    def test_what_an_old_frame_gives_goes_on_as_its_caller_was_told(self):
        program = read_program("part main () number\n  call x sub\n  tell x\n  call x sub\n  back x\n"
                               "part sub () number\n  mark here\n  back 7\n")
        live = live_at("here", program, "main", ())
        papers = live.look(read_change("part main () number\n  back 0\npart sub () number\n  back 8\n"))
        self.assertEqual(papers, ((None, (("x", NUMBER),), (("x", NUMBER),), (("x", NUMBER),)), (None, ())))
        self.refused(live, "part main () number\n  back 0\npart sub () truth\n  back yes\n", NotNow, 0, 3)
        live.enter(read_change("part sub () number\n  back 8\n"))
        self.assertEqual(live.old(), [1])
        while live.state()[4] is None:
            live.step()
        self.assertEqual(live.state()[3:], ((7,), ("back", 8)))

    def test_the_caller_of_an_old_frame_that_gives_another_kind(self):
        # main waits at row 1 for an old sub, which gives a number; new ones give a truth.
        program = read_program("part main () number\n  let n 0\n  call x sub\n  tell x\n  back 0\n"
                               "part sub () number\n  mark here\n  mark there\n  back 7\n")
        live = live_at("here", program, "main", ())
        live.enter(read_change("part main () number\n  back 0\npart sub () truth\n  back yes\n"))
        self.assertEqual(live.old(), [0, 1])
        live.step()
        # By the rest's paper, that row would have none: it is by the paper ahead that main came to it.
        n, x = ("n", NUMBER), ("x", NUMBER)
        self.assertTrue(alike(live.look(read_change("")), ((None, None, (n, x), (n, x)), (None, None, ()))))
        live.enter(read_change(""))
        live.enter(read_change("part sub () [number]\n  back (list 1)\n"))
        while live.state()[4] is None:
            live.step()
        self.assertEqual(live.state()[3:], ((7,), ("back", 0)))

    def test_the_rests_own_paper_behind_a_change(self):
        # Behind the first change, the rest holds x no more as a truth at row 1, as its loop lets it anew.
        program = read_program("part main () number\n  let x yes\n  mark here\n  tell 1\n  mark there\n  call x sub\n"
                               "  go 1\npart sub () truth\n  back no\n")
        live = live_at("there", program, "main", ())
        live.enter(read_change("part main () number\n  back 0\npart sub () number\n  back 4\n"))
        told = live.look(read_change(""))
        x = (("x", NUMBER),)
        self.assertTrue(alike(told, ((None, x, x, x, (), x),)))
        for _ in range(4):
            live.step()
        self.assertEqual(live.mark(), "here")
        self.assertTrue(alike(live.look(read_change("")), ((None, x, x, x, x, x),)))

    def test_many_frames_of_one_part(self):
        # At two rows with the same that is held, and, behind a change, at one row with something else held.
        program = read_program("box b number = 1\npart f (n number) number\n"
                               "  let a #b\n  let x 0\n  mark here\n  unless (under n 2) 6\n  call x f (add n 1)\n  back x\n"
                               "  unless (under n 7) 9\n  call x f (add n 1)\n  back (add x 1)\n  back n\n"
                               "part main () number\n  call x f 0\n  back x\n")
        change = read_change("box b truth = no\nlead b (under it 1)\n")
        for at in range(8):
            live, model = Live(program, "main", ()), Model(program, "main", ())
            while live.state()[4] is None:
                if live.mark():
                    self.assertTrue(alike(list(live.look(read_change(""))), model.looked(read_change(""))))
                    if len(live.state()[2]) == at + 2:
                        live.enter(change)
                        model.enter(change, "once")
                live.step()
                model.step()
            self.assertEqual(live.state()[4], ("back", 12))

    def test_several_changes_at_once_each_for_the_program_of_then(self):
        live = live_at("loop")
        live.enter(read_change("out unit\n"))
        self.refused(live, "out unit\n", NoFit, "unit")
        live.enter(read_change("kind unit k number\n"), "touch")
        live.enter(read_change("box more number = 6\n"), "once")
        live.enter(read_change("kind unit\nbox more truth = no\nlead more (under it 6)\n"), way="touch")
        self.assertEqual(live.asleep(), ["more"])
        self.assertEqual(live.state()[0]["more"], False)
        self.assertEqual(sorted(live.program()[1]), ["all", "many", "more"])

    def test_a_box_out_and_put_in_again_with_another_kind(self):
        for ways in (("touch", "once", "touch"), ("once", "touch", "once"), ("touch", "touch", "touch")):
            live = live_at("held")
            live.enter(read_change("box many number = 0\npart main (k number) number\n  back 0\nlead many 8\n"), ways[0])
            self.assertEqual(live.asleep(), ["many"] if ways[0] == "touch" else [])
            live.enter(read_change("out many\n"), ways[1])
            self.assertEqual((live.asleep(), "many" in live.state()[0]), ([], False))
            live.enter(read_change("box many truth = yes\n"), ways[2])
            self.assertEqual((live.asleep(), live.state()[0]["many"]), ([], True))
            live.enter(read_change("box many truth = no\nlead many (not it)\n"), "touch")
            self.assertEqual((live.asleep(), live.state()[0]["many"]), (["many"], False))

    def test_a_kind_out_and_put_in_again(self):
        program = read_program("kind node n number\npart main () number\n  new p node n 4\n  let p 0\n  mark here\n  tell 1\n"
                               "  go 2\n")
        for first in ("once", "touch"):
            live = live_at("here", program, "main", ())
            bare = "part main () number\n  back 0\n"
            live.enter(read_change("kind node n truth\n" + bare + "lead node n yes\n"), first)
            self.assertEqual(live.asleep(), ["r0"] if first == "touch" else [])
            live.enter(read_change("out node\n"), first)
            self.assertEqual((live.asleep(), live.state()[1]), ([], {"r0": ("", ())}))
            live.enter(read_change("kind node n [number]\n"), first)
            live.enter(read_change("kind node m number\nlead node m (many n)\n"), first)
            self.assertEqual((live.asleep(), live.state()[1]), ([], {"r0": ("", ())}))


class Sleep(Told):
    PROGRAM = read_program("""\
kind node n number, to [node]
kind other a number
box all [node] = []
box b number = 5
box c number = 7
part main () number
  new p node n 3, to (empty node)
  new q other a 4
  new w node n 6, to (list p)
  put all (list p w)
  let q 0
  mark here
  back 0
""")
    LEADS = ("kind node m number, n number, to [node]\nkind other a number\nbox b number = 0\nbox c number = 0\n"
             "part main () number\n  back 0\nlead node m (add n 1)\nlead other a (times a 2)\nlead b (add it 1)\n"
             "lead c (add it 10)\n")

    def asleep_behind(self, rows, awake, boxes=None):
        """Check which of all that sleep are awake behind rows that stand behind the mark."""
        program = copy.deepcopy(self.PROGRAM)
        program[2]["main"] = read_program(
            "part main () number\n  new p node n 3, to (empty node)\n  new q other a 4\n"
            "  new w node n 6, to (list p)\n  put all (list p w)\n  mark here\n" + rows + "  back 0\n")[2]["main"]
        live = live_at("here", program, "main", ())
        live.enter(read_change(self.LEADS), "touch")
        everything = ["b", "c", "r0", "r1", "r2"]
        self.assertEqual(live.asleep(), everything)
        for _ in range(1 + rows.count("\n")):
            live.step()
        self.assertEqual(live.asleep(), [name for name in everything if name not in awake], rows)
        self.assertEqual(live.state()[0], {"all": ("r0", "r2"), "b": 6, "c": 17, **(boxes or {})})

    def test_boxes(self):
        self.asleep_behind("  tell 1\n", "")
        self.asleep_behind("  tell #b\n", ["b"])
        self.asleep_behind("  put b 9\n", ["b"], {"b": 9})
        self.asleep_behind("  put b #b\n", ["b"])
        self.asleep_behind("  put b (add #c 1)\n", ["b", "c"], {"b": 18})
        self.asleep_behind("  let x (add #c #b)\n", ["b", "c"])
        self.asleep_behind("  let x (list 1 (times 0 #c))\n", ["c"])

    def test_records(self):
        self.asleep_behind("  tell (field p n)\n", ["r0"])
        self.asleep_behind("  set w n 4\n", ["r2"])
        self.asleep_behind("  set w n (field p n)\n", ["r0", "r2"])
        self.asleep_behind("  set q a (field q a)\n", ["r1"])
        self.asleep_behind("  tell (field (at (field w to) 0 w) n)\n", ["r0", "r2"])
        self.asleep_behind("  tell (field (at #all 1 w) n)\n", ["r2"])

    def test_not_by_being_held_told_of_compared_or_picked(self):
        self.asleep_behind("  let x p\n  let y (list p w)\n  let z q\n", "")
        self.asleep_behind("  let x (same p w)\n  let y (same #all (list p w))\n", "")
        self.asleep_behind("  let x (pick yes p w)\n  let y (at #all 0 p)\n  let z (join #all #all)\n", "")
        self.asleep_behind("  put all (list p w)\n  let x (many #all)\n", "")

    def test_all_parts_of_a_term_are_reckoned(self):
        self.asleep_behind("  tell (pick yes 1 #b)\n", ["b"])
        self.asleep_behind("  tell (pick no (field p n) (field w n))\n", ["r0", "r2"])
        self.asleep_behind("  tell (at (list 1) 0 #c)\n", ["c"])
        self.asleep_behind("  let x (both no (same #b #c))\n", ["b", "c"])
        self.asleep_behind("  unless (pick yes yes (same 1 (field q a))) 5\n", ["r1"])

    def test_calls_news_and_backs(self):
        program = read_program("kind n k number\nbox b number = 1\nbox c number = 2\nbox d number = 3\nbox e number = 4\n"
                               "part main (x number) number\n  mark here\n  new p n k #b\n  call y sub #c\n  back y\n"
                               "part sub (x number) number\n  unless (same #d 0) 1\n  back #e\n")
        live = live_at("here", program, "main", (1,))
        live.enter(read_change("".join("box " + b + " number = 0\n" for b in "bcde") + "".join(
            "lead " + b + " (add it 5)\n" for b in "bcde")), "touch")
        for left in ("bcde", "cde", "de", "e", "", ""):
            live.step()
            self.assertEqual(live.asleep(), list(left))
        self.assertEqual(live.state()[4], ("back", 9))
        self.assertEqual(live.state()[1], {"r0": ("n", (("k", 6),))})

    def test_what_sleeps(self):
        def asleep(text, way="touch"):
            live = live_at("here", self.PROGRAM, "main", ())
            live.enter(read_change(text), way)
            return live.asleep()

        main = "part main () number\n  back 0\n"
        self.assertEqual(asleep(self.LEADS), ["b", "c", "r0", "r1", "r2"])
        self.assertEqual(asleep(self.LEADS, "once"), [])
        self.assertEqual(asleep("box b number = 0\nlead b it\n"), ["b"])
        self.assertEqual(asleep("box b number = 0\n"), [])
        self.assertEqual(asleep("box new number = 0\n"), [])
        self.assertEqual(asleep("kind other a number\n"), [])
        self.assertEqual(asleep("kind other a number\nlead other\n"), [])
        self.assertEqual(asleep("kind other a number\nlead other a a\n"), ["r1"])
        self.assertEqual(asleep("kind other\n" + main), ["r1"])
        self.assertEqual(asleep("kind other\n" + main + "lead other\n"), ["r1"])
        self.assertEqual(asleep("kind another a number\n"), [])
        self.assertEqual(asleep("kind other a number, z number\n" + main + "lead other z 1\n"), ["r1"])
        self.assertEqual(asleep("out c\nkind node n number\n" + main), ["r0", "r2"])

    def test_several_by_touching_and_one_at_once(self):
        live = live_at("here", self.PROGRAM, "main", ())
        live.enter(read_change(self.LEADS), "touch")
        live.enter(read_change("kind node k truth, m number\nbox b truth = yes\nlead node k (under m n)\n"
                               "lead b (under it 9)\n"), "touch")
        live.enter(read_change("kind other z number\nbox c [number] = []\nlead other z (add a 1)\nlead c (list it)\n"),
                   "touch")
        state = live.state()
        self.assertEqual(state[0], {"all": ("r0", "r2"), "b": True, "c": (17,)})
        self.assertEqual(state[1], {"r0": ("node", (("k", False), ("m", 4))), "r1": ("other", (("z", 9),)),
                                    "r2": ("node", (("k", False), ("m", 7)))})
        self.assertEqual(live.asleep(), ["b", "c", "r0", "r1", "r2"])
        live.enter(read_change("kind node k truth\nbox c [number] = []\n"))
        self.assertEqual(live.asleep(), ["b", "r1"])
        live.enter(read_change("box b number = 3\nlead b (pick it 1 2)\n"), "once")
        self.assertEqual(live.asleep(), ["r1"])
        live.enter(read_change("kind other\nbox c number = 0\nlead c (at it 0 9)\n"), "touch")
        self.assertEqual(live.asleep(), ["c", "r1"])
        self.assertEqual(live.state()[0], {"all": ("r0", "r2"), "b": 1, "c": 17})
        self.assertEqual(live.state()[1], {"r0": ("node", (("k", False),)), "r1": ("other", ()),
                                           "r2": ("node", (("k", False),))})
        live.enter(read_change("kind other\nbox c number = 0\n"), "once")
        self.assertEqual(live.asleep(), [])

    def test_a_change_by_touching_that_puts_it_as_it_was_lets_it_sleep_on(self):
        live = live_at("here", self.PROGRAM, "main", ())
        live.enter(read_change(self.LEADS), "touch")
        live.enter(read_change("kind node m number, n number, to [node]\nkind other a number\n"
                               "box b number = 4\nbox c number = 4\nlead other\n"), "touch")
        self.assertEqual(live.asleep(), ["b", "c", "r0", "r1", "r2"])
        live.enter(read_change("out c\n"), "touch")
        self.assertEqual(live.asleep(), ["b", "r0", "r1", "r2"])
        live.enter(read_change("out other\n"), "touch")
        self.assertEqual(live.asleep(), ["b", "r0", "r2"])
        self.assertEqual(live.state()[1]["r1"], ("", ()))

    def test_records_made_behind_the_change_are_awake(self):
        program = read_program("kind n k number\nbox all [n] = []\npart main () number\n  new p n k 1\n  mark here\n"
                               "  new q n k 2\n  put all (list p q)\n  tell (field q k)\n  tell (field p k)\n  back 0\n")
        live = live_at("here", program, "main", ())
        live.enter(read_change("kind n k number\nlead n k (add k 100)\n"), "touch")
        for _ in range(4):
            live.step()
            self.assertEqual(live.asleep(), ["r0"])
        live.step()
        self.assertEqual((live.asleep(), live.state()[3]), ([], (2, 101)))

    def test_to_ask_wakes_nothing(self):
        live = live_at("here", self.PROGRAM, "main", ())
        live.enter(read_change(self.LEADS), "touch")
        for _ in range(2):
            self.all_of(live)
            live.look(read_change(self.LEADS))
            self.refused(live, "out lost\n", NoFit, "lost")
            self.refused(live, "kind node n truth\n", NoLead, "node", "n")
            self.refused(live, "out node\n", NotRight, "all", -1)
            self.refused(live, "out all\nout node\npart main () number\n  back 0\n", NotNow, 0, 5)
            self.assertEqual(live.asleep(), ["b", "c", "r0", "r1", "r2"])

    def test_refs_in_lists_of_lists_and_dead_ones_in_lists(self):
        program = read_program("kind gone\nkind n k number, to [n]\nbox all [[n]] = []\nbox dead [gone] = []\n"
                               "part main () number\n  new g gone\n  put dead (list g g)\n  let g 0\n  new p n k 1, to (empty n)\n"
                               "  new q n k 2, to (list p p)\n  put all (list (list p q) (empty n))\n  mark here\n"
                               "  tell (field (at (field (at (at #all 0 (empty n)) 1 p) to) 1 q) k)\n  back 0\n")
        for way in ("once", "touch"):
            live = live_at("here", program, "main", ())
            live.enter(read_change("out dead\nout gone\nkind n all [[n]], k number, to [n]\npart main () number\n  back 0\n"
                                   "lead n all (list to (join to to))\n"), way)
            self.assertEqual(live.state()[1], {
                "r0": ("", ()), "r1": ("n", (("all", ((), ())), ("k", 1), ("to", ()))),
                "r2": ("n", (("all", (("r1", "r1"), ("r1",) * 4)), ("k", 2), ("to", ("r1", "r1"))))})
            live.step()
            live.step()
            self.assertEqual((live.state()[3], live.asleep()), ((1,), []))


class Old(Told):
    PROGRAM = read_program("part main () number\n  call x sub\n  back x\npart sub () number\n  mark here\n  call x main\n"
                           "  back x\n")

    def test_old_frames(self):
        live = live_at("here", self.PROGRAM, "main", ())
        for _ in range(6):
            live.step()
        self.assertEqual((live.mark(), len(live.state()[2])), ("here", 6))
        live.enter(read_change("part main () number\n  call x sub\n  back x\n"))
        self.assertEqual(live.old(), [])
        live.enter(read_change("part main () number\n  call x sub\n  back (add x 1)\n"))
        self.assertEqual(live.old(), [0, 2, 4])
        for _ in range(3):
            live.step()
        self.assertEqual((live.mark(), len(live.state()[2]), live.old()), ("here", 8, [0, 2, 4]))
        live.enter(read_change("part sub () number\n  back 3\n"), "touch")
        self.assertEqual(live.old(), [0, 1, 2, 3, 4, 5, 7])
        # The very part comes in again.
        live.enter(read_change("part main () number\n  call x sub\n  back x\n"))
        self.assertEqual(live.old(), [1, 3, 5, 6, 7])
        live.enter(read_change("part main () number\n  back 0\n"))
        self.assertEqual(live.old(), [0, 1, 2, 3, 4, 5, 6, 7])

    def test_a_part_that_is_out(self):
        program = read_program("part main () number\n  call x sub\n  back x\npart sub () number\n  mark here\n  back 1\n")
        live = live_at("here", program, "main", ())
        live.enter(read_change("out sub\npart main () number\n  back 0\n"))
        self.assertEqual(live.old(), [0, 1])
        live.enter(read_change("out main\nkind sub\n"))
        self.assertEqual(live.old(), [0, 1])
        for _ in range(4):
            live.step()
        self.assertEqual((live.old(), live.state()[4]), ([], ("back", 1)))


class Waiting(Told):
    PROGRAM = read_program("kind held\nbox b number = 1\npart main () number\n  tell 0\n  mark here\n  new h held\n"
                           "  mark there\n  tell #b\n  let h 0\n  go 0\n")
    BARE = "part main () number\n  back 0\n"

    def told(self, live):
        return (live.waiting(), live.dropped())

    def test_let_in_at_the_next_mark(self):
        live = Live(self.PROGRAM, "main", ())
        self.assertIsNone(live.wait(read_change("box b number = 1\nlead b (add it 1)\n")))
        live.wait(read_change("box b number = 1\nlead b (times it 10)\n"), way="touch")
        live.wait(read_change("box c number = 4\n"), "once")
        self.assertEqual(self.told(live), (3, 0))
        live.step()
        self.assertEqual((self.told(live), live.mark(), live.state()[0]), ((3, 0), "here", {"b": 1}))
        live.step()
        self.assertEqual((self.told(live), live.mark(), live.state()[0]), ((0, 0), None, {"b": 20, "c": 4}))
        self.assertEqual(live.asleep(), ["b"])

    def test_what_may_not_come_in_now_waits_on_and_all_behind_it(self):
        live = Live(self.PROGRAM, "main", ())
        live.wait(read_change("out held\n" + self.BARE))
        live.wait(read_change("box b number = 1\nlead b 9\n"))
        live.wait(read_change("out lost\n"))
        for _ in range(40):
            live.step()
            self.assertEqual(self.told(live), (3, 0))
        self.assertEqual(live.state()[0], {"b": 1})
        self.assertEqual(live.old(), [])

    def test_it_comes_in_later(self):
        program = read_program("kind held\nbox b number = 1\npart main () number\n  new h held\n  mark here\n  let h 0\n"
                               "  mark there\n  back #b\n")
        live = Live(program, "main", ())
        live.wait(read_change("out held\n" + self.BARE), "touch")
        live.wait(read_change("box b number = 1\nlead b 9\n"))
        for told in ((2, 0), (2, 0), (2, 0), (0, 0), (0, 0)):
            live.step()
            self.assertEqual(self.told(live), told)
        self.assertEqual((live.state()[1], live.state()[4]), ({"r0": ("", ())}, ("back", 9)))

    def test_what_is_refused_otherwise_is_dropped(self):
        live = Live(self.PROGRAM, "main", ())
        texts = ["out lost\n", "box c number = 3\n", "kind held\nlead held a 1\n", "out b\n", "box b truth = no\n",
                 "box c truth = yes\nlead c (under it 9)\n", "box c number = 3\n", "out held\n" + self.BARE, "out lost\n"]
        for text in texts:
            live.wait(read_change(text))
        self.assertEqual(self.told(live), (9, 0))
        live.step()
        self.assertEqual(self.told(live), (9, 0))
        live.step()
        self.assertEqual(self.told(live), (2, 5))
        self.assertEqual(live.state()[0], {"b": 1, "c": True})
        for _ in range(12):
            live.step()
        self.assertEqual(self.told(live), (2, 5))

    def test_each_for_the_program_of_then(self):
        live = Live(self.PROGRAM, "main", ())
        live.wait(read_change("box c number = 3\n"))
        live.wait(read_change("out c\n"))
        live.wait(read_change("out c\n"))
        live.wait(read_change("box c truth = no\n"))
        live.step()
        live.step()
        self.assertEqual((self.told(live), live.state()[0]), ((0, 1), {"b": 1, "c": False}))

    def test_entered_by_hand_between(self):
        live = Live(self.PROGRAM, "main", ())
        live.wait(read_change("out held\n" + self.BARE))
        live.wait(read_change("box c number = 4\n"))
        for _ in range(4):
            live.step()
        self.assertEqual((live.mark(), self.told(live)), (None, (2, 0)))
        while live.mark() != "here":
            live.step()
        live.enter(read_change("box c number = 3\n"))
        live.step()
        self.assertEqual(self.told(live), (2, 0))
        # Behind this one, that which waits first does not fit any more.
        while live.mark() != "there":
            live.step()
        live.enter(read_change("kind other\npart main () number\n  back 2\n"))
        while live.mark() != "here":
            live.step()
        self.assertEqual(self.told(live), (2, 0))

    def test_one_that_waits_does_not_fit_behind_one_that_is_entered_by_hand(self):
        live = Live(self.PROGRAM, "main", ())
        live.wait(read_change("out extra\nout held\n" + self.BARE))
        while live.mark() != "here":
            live.step()
        live.enter(read_change("kind extra\n"))
        live.step()
        self.assertEqual(self.told(live), (1, 0))
        while live.mark() != "there":
            live.step()
        live.enter(read_change("out extra\n"))
        live.step()
        self.assertEqual(self.told(live), (0, 1))

    def test_what_was_known_of_the_one_that_waits_is_forgotten(self):
        program = read_program("kind held\nbox b number = 1\npart main () number\n  call x sub\n  let a #b\n  mark low\n"
                               "  go 0\npart sub () number\n  new h held\n  mark here\n  let h 0\n  mark there\n  back 0\n")
        live = Live(program, "main", ())
        live.wait(read_change("out held\npart sub () number\n  back 0\n"))
        while live.mark() != "there":
            live.step()
        live.enter(read_change("box b truth = no\nlead b (under it 1)\n"))
        self.assertEqual(self.told(live), (1, 0))
        while live.mark() != "low":
            live.step()
        self.assertEqual((self.told(live), live.old()), ((0, 0), []))
        held = (("a", TRUTH), ("x", NUMBER))
        self.assertTrue(alike(live.look(read_change("")), ((held,) * 4,)))

    def test_at_the_end_nothing_comes_in(self):
        program = read_program("part main () number\n  tell 1\n  back 0\n")
        live = Live(program, "main", ())
        live.wait(read_change("box c number = 3\n"))
        live.wait(read_change("out lost\n"))
        for _ in range(5):
            live.step()
        self.assertEqual((self.told(live), live.state()[4], live.program()), ((2, 0), ("back", 0), program))

    def test_as_if_entered_by_hand(self):
        for seed, program in enumerate(made_programs(25)):
            changer = Changer(seed + 300)
            waiting, by_hand = Live(program, "main", ()), Live(program, "main", ())
            queue, drops, ahead = [], 0, program
            for n in range(120):
                if changer.chance.random() < 0.15:
                    change, way = changer.change(ahead), changer.chance.choice(("once", "touch"))
                    waiting.wait(change, way)
                    queue.append((change, way))
                    if changer.chance.random() < 0.6:
                        ahead = changed(ahead, change)
                while queue and by_hand.mark():
                    try:
                        by_hand.enter(*queue[0])
                    except NotNow:
                        break
                    except ChangeError:
                        drops += 1
                    queue.pop(0)
                waiting.step()
                by_hand.step()
                self.assertTrue(alike(self.all_of(waiting)[:5], self.all_of(by_hand)[:5]))
                self.assertEqual((waiting.waiting(), waiting.dropped()), (len(queue), drops))


class WholeRuns(Told):
    def test_live_runs_of_made_programs(self):
        """Each by once, by touch, and by both in turn, beside what the other modules tell."""
        let_in = kept_out = slept = 0
        for seed, program in enumerate(made_programs(35)):
            changer = Changer(seed + 100, fate=0.8)
            ways = (lambda: "once", lambda: "touch", lambda: changer.chance.choice(("once", "touch")))
            pairs = [(Live(program, "main", ()), Model(program, "main", ()), way) for way in ways]
            for _ in range(100):
                first = pairs[0][1]
                if at_mark(first.state) and changer.chance.random() < 0.5:
                    change = changer.change(first.program)
                    wanted = first.looked(change)
                    let_in += isinstance(wanted, list)
                    kept_out += isinstance(wanted, tuple)
                    for live, model, way in pairs:
                        self.entered(live, model, change, way(), wanted)
                for live, model, _ in pairs:
                    self.alike_with(live, model)
                    live.step()
                    model.step()
                slept += bool(pairs[1][0].asleep())
                states = [live.state() for live, _, _ in pairs]
                self.assertTrue(alike(states[0], states[1]) and alike(states[0], states[2]))
                self.assertTrue(fits(first.program, first.state, tuple(first.papers)[:len(first.state[2])]))
                if states[0][4] is not None:
                    break
        self.assertTrue(let_in > 40 and kept_out > 5 and slept > 40, (let_in, kept_out, slept))

    def entered(self, live, model, change, way, wanted):
        kept = copy.deepcopy(change)
        if isinstance(wanted, list):
            self.assertTrue(alike(live.look(change), tuple(wanted)))
            self.assertIsNone(live.enter(change, way))
            self.assertIsNone(model.enter(change, way))
        else:
            for ask in (live.look, live.enter):
                with self.assertRaises(NotNow) as caught:
                    ask(change)
                self.assertEqual((caught.exception.frame, caught.exception.row), wanted)
        self.assertTrue(alike(change, kept))

    def test_a_run_of_five_thousand_steps_with_two_thousand_records(self):
        program = read_program("kind n k number, to [n]\nbox all [n] = []\nbox sum number = 0\npart main () number\n"
                               "  let i 0\n  new x n k i, to #all\n  put all (list x)\n  let i (add i 1)\n"
                               "  unless (same i 900) 1\n  mark here\n  let x (at #all 0 x)\n  put sum (add #sum (field x k))\n"
                               "  put all (field x to)\n  unless (same (many #all) 0) 5\n  back #sum\n")
        ends = []
        for way in ("once", "touch"):
            live, steps = Live(program, "main", ()), 0
            live.wait(read_change("kind n j truth, k number, to [n]\npart main () number\n  back 0\nlead n j (under k 5), k "
                                  "(times k 3)\n"), way)
            while live.run.end is None:
                live.step()
                steps += 1
            self.assertGreater(steps, 5000)
            ends.append(live.state())
        self.assertTrue(alike(*ends))
        self.assertEqual(ends[0][4], ("back", 3 * 899 * 900 // 2))
        self.assertEqual(ends[0][1]["r7"], ("n", (("j", False), ("k", 21), ("to", ("r6",)))))

    def test_twenty_parts_of_sixty_rows(self):
        names = ["p" + letter for letter in "abcdefghijklmnopqrst"]
        parts = {}
        for k, name in enumerate(names):
            rows = [("let", "y", ("add", ("name", "x"), ("number", r))) for r in range(56)]
            rows += [("mark", "m" + "abcdefghijklmnopqrst"[k]),
                     ("call", "x", names[k - 19], (("name", "y"),)) if k != 19 else ("mark", "last"),
                     ("tell", ("name", "x"))]
            parts[name] = ((("x", NUMBER),), NUMBER, tuple(rows) + (("back", ("name", "x")),))
        program = ({"gone": ()}, {"b": (NUMBER, 1)}, parts)
        live = live_at("last", program, "pa", (1,))
        self.assertEqual(len(live.state()[2]), 20)
        self.assertEqual(len(live.look(read_change("out gone\n"))), 20)
        live.wait(read_change("out gone\n"))
        live.wait(read_change("box b number = 5\nlead b 8\n"))
        for _ in range(200):
            live.step()
        self.assertEqual((live.state()[0], live.program()[0], len(live.state()[3])), ({"b": 8}, {}, 20))

    def test_what_waits_long_for_many_frames(self):
        # Sixty frames of twenty parts, of which only the last one forbids it.
        names = ["p" + letter for letter in "abcdefghijklmnopqrst"]
        parts = {}
        for k, name in enumerate(names):
            rows = [("let", "y", ("add", ("name", "x"), ("number", r))) for r in range(50)]
            rows += [("unless", ("under", ("name", "x"), ("number", 56)), 53),
                     ("call", "x", names[(k + 1) % 20], (("add", ("name", "x"), ("number", 1)),)), ("back", ("name", "x")),
                     ("new", "h", "held", ()), ("mark", "m" + name), ("tell", ("number", 1)), ("go", 54)]
            parts[name] = ((("x", NUMBER),), NUMBER, tuple(rows))
        program = ({"held": ()}, {}, parts)
        live = live_at("mpq", program, "pa", (0,))
        self.assertEqual(len(live.state()[2]), 57)
        change = (("held",), {}, {}, {name: ((("x", NUMBER),), NUMBER, (("back", ("name", "x")),)) for name in names}, {}, {})
        with self.assertRaises(NotNow) as caught:
            live.look(change)
        self.assertEqual((caught.exception.frame, caught.exception.row), (56, 54))
        live.wait(change)
        for _ in range(3000):
            live.step()
        self.assertEqual((live.waiting(), live.dropped(), len(live.state()[3])), (1, 0, 1000))
        # Behind another change it is looked at for the program of then.
        live.enter(((), {"more": ()}, {}, {}, {}, {}))
        live.step()
        self.assertEqual((live.waiting(), live.dropped(), live.old()), (1, 0, []))

    def test_what_waits_long_does_not_make_the_run_slow(self):
        names = ["p" + letter for letter in "abcdefghijklmnopqrs"]
        parts = {name: ((("x", NUMBER),), NUMBER, tuple(("let", "y", ("add", ("name", "x"), ("number", r)))
                                                       for r in range(59)) + (("back", ("name", "x")),))
                 for name in names}
        program = read_program("kind held\npart main () number\n  new h held\n  mark here\n  tell 1\n  go 1\n")
        program[2].update(parts)
        live = Live(program, "main", ())
        live.wait(read_change("out held\npart main () number\n  back 0\n"))
        for _ in range(5000):
            live.step()
        self.assertEqual((live.waiting(), live.dropped()), (1, 0))
        self.assertEqual(run_on(program, begun(program, "main", ()), 5000), live.state())


if __name__ == "__main__":
    unittest.main()
