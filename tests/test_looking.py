"""The looker and the small reader of its papers, points 2, 3, 22, 23 and 24."""

import copy
import unittest

from changewhile.changes import changed
from changewhile.changetexts import read_change
from changewhile.errors import ChangeError, NoFit, NoLead, NotRight
from changewhile.kinding import is_there
from changewhile.leading import led
from changewhile.looking import look, reads_entry
from changewhile.papers import grown, papers_of, reads, wrong_rows
from changewhile.places import places_at
from changewhile.programs import marks_of
from changewhile.programtexts import program_text, read_program
from changewhile.states import begun, fits, stepped
from tests.changing import Changer
from tests.examples import NUMBER, TRUTH, alike, odd_things
from tests.making import made_programs
from tests.test_places import is_chain

WHOLE = read_program("""\
kind node n number, to [node]
kind unit
box all [node] = []
box many number = 3
part deep (k number, t truth) truth
  unless (under 0 k) 3
  call s deep (less k 1) t
  back s
  mark low
  back t
part lone () number
  mark unmet
  back 0
part main (k number) number
  new p node n k, to (empty node)
  call s deep k yes
  let i 0
  mark loop
  unless (under i #many) 7
  let i (add i 1)
  go 3
  new u unit
  mark held
  back (add i (field p n))
part shut () number
  back 0
  mark never
  back 0
""")


def at_mark(state):
    """The name of the mark at which a state is, or None."""
    if state[4] is not None:
        return None
    _, part, r, _ = state[2][-1]
    return part[2][r][1] if part[2][r][0] == "mark" else None


def answer_another_way(program, start, change, mark):
    """What the looker is to tell, but for the chain, by the very words of the document."""
    behind, ahead = changed(program, change), papers_of(program)
    papers = {}
    for name, r in places_at(program, start, mark):
        part = program[2][name]
        begins = dict(ahead[name][r])
        if part[2][r][0] == "call":
            begins[part[2][r][1]] = program[2][part[2][r][2]][1]
        if not all(is_there(kind, behind) for kind in begins.values()):
            return ("not", (name, r), r)
        paper = grown(behind, part, r + 1, tuple(sorted(begins.items())))
        if wrong_rows(behind, part, paper):
            return ("not", (name, r), wrong_rows(behind, part, paper)[0])
        papers[(name, r)] = paper
    return ("in", papers)


class Looked(unittest.TestCase):
    def look(self, text, start="main"):
        return look(WHOLE, start, read_change(text))

    def let_in(self, text, mark, *places, start="main"):
        told = self.look(text, start)[mark]
        self.assertEqual(told[0], "in", told)
        self.assertEqual(sorted(told[1]), sorted(places))
        self.assertTrue(alike(told, answer_another_way(WHOLE, start, read_change(text), mark)))

    def kept_out(self, text, mark, place, row, start="main"):
        told = self.look(text, start)[mark]
        self.assertIsInstance(told, tuple)
        self.assertTrue(alike(told[:3], ("not", place, row)), told)
        self.assertEqual(len(told), 4)
        self.assertTrue(is_chain(WHOLE, start, mark, place, told[3]))
        self.assertTrue(alike(told[:3], answer_another_way(WHOLE, start, read_change(text), mark)))


MAIN, DEEP = program_text(({}, {}, {"main": WHOLE[2]["main"]})), program_text(({}, {}, {"deep": WHOLE[2]["deep"]}))


class Look(Looked):
    def test_each_mark_from_each_start(self):
        for start in WHOLE[2]:
            told = self.look("", start)
            self.assertIs(type(told), dict)
            self.assertEqual(sorted(told), ["held", "loop", "low", "never", "unmet"])

    def test_the_change_that_changes_nothing(self):
        for start in WHOLE[2]:
            for text in ("", program_text(WHOLE), MAIN, DEEP, "kind unit\n", "box many number = 3\n",
                         "kind node n number, to [node]\nlead node n n\n", "box many number = 3\nlead many it\n"):
                told = self.look(text, start)
                for mark in told:
                    self.assertTrue(alike(told[mark], answer_another_way(WHOLE, start, read_change(text), mark)))
                    self.assertEqual(told[mark][0], "in")

    def test_the_papers_of_rests(self):
        told = self.look("")
        k, p, s, u = ("k", NUMBER), ("p", ("record", "node")), ("s", TRUTH), ("u", ("record", "unit"))
        i, t = ("i", NUMBER), ("t", TRUTH)
        self.assertTrue(alike(told["held"], ("in", {("main", 8): (None,) * 9 + ((i, k, p, s, u),)})))
        self.assertTrue(alike(told["loop"], ("in", {("main", 3): (None,) * 3 + ((i, k, p, s),) * 5 + (
            (i, k, p, s, u),) * 2})))
        self.assertTrue(alike(told["low"], ("in", {
            ("deep", 1): (None, None, (k, s, t), None, None),
            ("deep", 3): (None, None, None, None, (k, t)),
            ("main", 1): (None, None, (k, p, s)) + ((i, k, p, s),) * 5 + ((i, k, p, s, u),) * 2})))

    def test_marks_that_are_not_met(self):
        wrong = "out unit\n" + MAIN.replace("  new u unit\n", "  go 8\n")
        for start, marks in (("main", ["never", "unmet"]), ("lone", ["held", "loop", "low", "never"]),
                             ("shut", ["held", "loop", "low", "never", "unmet"])):
            for text in ("", wrong):
                told = self.look(text, start)
                for mark in marks:
                    self.assertTrue(alike(told[mark], ("in", {})), (start, mark))
        self.let_in("", "unmet", ("lone", 0), start="lone")
        self.let_in("", "low", ("deep", 1), ("deep", 3), start="deep")

    def test_a_start_that_is_no_part(self):
        self.assertTrue(alike(self.look("", "lost"), dict.fromkeys(("held", "loop", "low", "never", "unmet"), ("in", {}))))
        self.assertEqual(places_at(WHOLE, "lost", "low"), ())

    def test_a_part_alone(self):
        put = MAIN.replace("add i 1", "add i 2")
        self.let_in(put, "loop", ("main", 3))
        self.let_in(put, "low", ("deep", 1), ("deep", 3), ("main", 1))

    def test_a_part_that_is_out(self):
        text = "out deep\n" + MAIN.replace("  call s deep k yes\n", "  go 2\n")
        self.let_in(text, "loop", ("main", 3))
        self.let_in(text, "held", ("main", 8))
        self.let_in(text, "low", ("deep", 1), ("deep", 3), ("main", 1))

    def test_a_part_with_another_gives(self):
        text = "part deep (k number, t truth) number\n  back 1\n" + MAIN
        # What was called ahead of the change still gives a truth.
        self.let_in(text, "low", ("deep", 1), ("deep", 3), ("main", 1))
        loops = WHOLE[2]["main"]
        program = (WHOLE[0], WHOLE[1], {**WHOLE[2], "main": loops[:2] + (
            loops[2][:4] + (("call", "s", "deep", (("number", 1), ("truth", True))), ("unless", ("name", "s"), 4),
                            ("go", 3)) + loops[2][7:],)})
        told = look(program, "main", read_change(text + "  tell 0\n  back 1\n"))
        self.assertTrue(alike(told["loop"][:3], ("not", ("main", 3), 5)))
        self.assertTrue(alike(told["held"][0], "in"))

    def test_one_take_more_or_less(self):
        for head, terms in (("(k number)", "k"), ("(k number, t truth, v number)", "k yes 1")):
            for name in ("main", "deep"):
                text = "part deep " + head + " truth\n  back no\n" + MAIN.replace("k yes", terms)
                change = read_change(text)
                told = look(WHOLE, name, change)
                for mark in told:
                    self.assertTrue(alike(told[mark][:1], ("in",)), (text, mark))
        # A rest that calls it again calls it as the new program has it.
        text = "part main (k number, j number) number\n  back k\n"
        program = read_program("part main (k number) number\n  mark here\n  call x main (add k 1)\n  back x\n")
        told = look(program, "main", read_change(text))
        self.assertTrue(alike(told, {"here": ("not", ("main", 0), 1, told["here"][3])}))
        self.assertTrue(is_chain(program, "main", "here", ("main", 0), told["here"][3]))

    def test_old_rows_that_call_a_new_part(self):
        program = read_program("part main () number\n  mark here\n  call x sub 1\n  tell x\n  back x\n"
                               "part sub (a number) number\n  back a\n")
        told = look(program, "main", read_change("part sub (other number) number\n  back (add other 5)\n"))
        x = (("x", NUMBER),)
        self.assertTrue(alike(told, {"here": ("in", {("main", 0): (None, (), x, x)})}))
        for text, row in [("part sub (a truth) number\n  back 1\n", 1), ("part sub () number\n  back 1\n", 1),
                          ("part sub (a number) truth\n  back yes\n", 2), ("out sub\n", 1)]:
            main = "part main () number\n  back 0\n"
            change = read_change(text + main if text.startswith("out") else main + text)
            self.assertTrue(alike(look(program, "main", change)["here"][:3], ("not", ("main", 0), row)))

    def test_kinds_and_boxes_otherwise_with_leads(self):
        change = read_change("kind node n number, to [node], up truth\nbox many number = 3\n"
                             + MAIN.replace("to (empty node)", "to (empty node), up yes")
                             + "lead node up no\nlead many (add it 1)\n")
        told = look(WHOLE, "main", change)
        self.assertEqual({mark: told[mark][0] for mark in told}, dict.fromkeys(told, "in"))
        # The rests are held against the new kinds: one that makes such a record behind a mark is wrong.
        program = read_program("kind p a number\npart main () number\n  mark here\n  new x p a 1\n  back (field x a)\n")
        change = read_change("kind p a number, b number\npart main () number\n  back 0\nlead p b a\n")
        self.assertTrue(alike(look(program, "main", change)["here"][:3], ("not", ("main", 0), 1)))
        change = read_change("kind p a truth\npart main () number\n  back 0\nlead p a (same a 1)\n")
        self.assertTrue(alike(look(program, "main", change)["here"][:3], ("not", ("main", 0), 1)))

    def test_a_box_with_another_kind_or_none(self):
        for text in ("box many truth = yes\n" + MAIN.replace("  unless (under i #many) 7\n", "  tell 1\n")
                     + "lead many (same it 1)\n",
                     "out many\n" + MAIN.replace("  unless (under i #many) 7\n", "  tell 1\n")):
            self.kept_out(text, "loop", ("main", 3), 4)
            self.kept_out(text, "low", ("main", 1), 4)
            self.let_in(text, "held", ("main", 8))

    def test_a_kind_that_is_out_while_a_record_of_it_is_held(self):
        text = "out unit\n" + MAIN.replace("  new u unit\n", "  go 8\n")
        self.kept_out(text, "held", ("main", 8), 8)
        # Behind the mark such a record would be made.
        self.kept_out(text, "loop", ("main", 3), 7)
        self.kept_out(text, "low", ("main", 1), 7)
        # One held ahead of the mark only, and let anew, is no harm.
        program = read_program("kind unit\npart main () number\n  new u unit\n  let u 3\n  mark here\n  back u\n")
        told = look(program, "main", read_change("out unit\npart main () number\n  back 0\n"))
        self.assertEqual(told["here"][0], "in")

    def test_the_kind_of_what_a_call_gives(self):
        program = read_program("kind unit\npart main () number\n  call u sub\n  let u 3\n  back u\n"
                               "part sub () unit\n  new u unit\n  let v u\n  let u 0\n  mark here\n  go 4\n")
        change = read_change("out unit\npart main () number\n  back 0\npart sub () number\n  back 0\n")
        self.assertTrue(alike(look(program, "main", change)["here"][:3], ("not", ("main", 0), 0)))
        self.assertTrue(alike(look(program, "sub", change)["here"][:3], ("not", ("sub", 3), 3)))

    def test_what_the_name_of_a_call_was_ahead_has_no_bearing(self):
        program = read_program("kind unit\npart main () number\n  new x unit\n  call x sub\n  back x\n"
                               "part sub () number\n  mark here\n  back 4\n")
        told = look(program, "main", read_change("out unit\npart main () number\n  back 0\n"))
        self.assertEqual(told["here"], ("in", {("main", 1): (None, None, (("x", NUMBER),)), ("sub", 0): (None, ())}))

    def test_the_first_place_by_sorting_and_its_first_wrong_row(self):
        program = read_program("kind unit\npart aa () number\n  call x zz\n  tell x\n  tell #b\n  tell #c\n  back x\n"
                               "part main () number\n  tell #b\n  call x aa\n  tell #b\n  back x\n"
                               "part zz () number\n  mark here\n  tell #c\n  back 0\n".replace(
                                   "part aa", "box b number = 0\nbox c number = 0\npart aa"))
        bare = "".join("part " + name + " () number\n  back 0\n" for name in ("aa", "main", "zz"))
        for outs, place, row in [("out b\n", ("aa", 0), 2), ("out c\n", ("aa", 0), 3), ("out b\nout c\n", ("aa", 0), 2)]:
            told = look(program, "main", read_change(outs + bare))
            self.assertTrue(alike(told["here"][:3], ("not", place, row)))
            self.assertTrue(is_chain(program, "main", "here", place, told["here"][3]))
        told = look(program, "zz", read_change("out c\n" + bare))
        self.assertTrue(alike(told["here"], ("not", ("zz", 0), 1, (("zz", 0),))))

    def test_backs_of_old_parts_give_what_their_part_gave(self):
        program = read_program("part main () number\n  call x sub\n  back (pick x 1 2)\n"
                               "part sub () truth\n  mark here\n  back yes\n")
        change = read_change("part main () number\n  back 0\npart sub () number\n  back 5\n")
        self.assertEqual(look(program, "main", change)["here"][0], "in")

    def test_made_programs_and_changes(self):
        seen = set()
        for seed, program in enumerate(made_programs(60)):
            changer = Changer(seed)
            for _ in range(3):
                change = changer.change(program)
                for start in ("main", "side"):
                    told = look(program, start, change)
                    self.assertEqual(sorted(told), sorted(marks_of(program)))
                    for mark in told:
                        wanted = answer_another_way(program, start, change, mark)
                        self.assertTrue(alike(told[mark][:len(wanted)], wanted))
                        seen.add((told[mark][0], len(told[mark][1]) > 1))
                        if told[mark][0] == "not":
                            self.assertTrue(is_chain(program, start, mark, told[mark][1], told[mark][3]))
                        else:
                            self.assertTrue(reads_entry(program, start, change, mark, told[mark][1]))
        self.assertEqual(seen, {("not", True), ("in", True), ("in", False)})


class Refused(Looked):
    def refused(self, text, error, *values):
        for start in WHOLE[2]:
            with self.assertRaises(ValueError) as caught:
                self.look(text, start)
            self.assertIs(type(caught.exception), error)
            self.assertIsInstance(caught.exception, ChangeError)
            self.assertEqual(tuple(vars(caught.exception).values()), values)
            with self.assertRaises(error) as other:
                changed(WHOLE, read_change(text))
            self.assertEqual(vars(other.exception), vars(caught.exception))

    def test_as_changed_refuses(self):
        self.refused("out lost\n", NoFit, "lost")
        self.refused("box deep number = 1\nbox node number = 1\n", NoFit, "deep")
        self.refused("part deep () number\n  mark held\n  back 0\n", NoFit, "held")
        self.refused("kind node n truth\n", NoLead, "node", "n")
        self.refused("box many truth = yes\n", NoLead, "many", "")
        self.refused("out many\n", NotRight, "main", 4)
        self.refused("box many truth = yes\nlead many it\n", NotRight, "main", 4)
        self.refused("box many number = 1\nlead many (same it 1)\n", NotRight, "many", -1)

    def test_in_their_order(self):
        self.refused("out lost\nkind node n truth\nbox many truth = 3\n", NoFit, "lost")
        self.refused("kind node n truth\nbox many number = yes\n", NoLead, "node", "n")


class ReadsEntry(Looked):
    TEXT = "box many number = 9\n"

    def reads(self, papers, mark="low", text=TEXT, start="main"):
        told = reads_entry(WHOLE, start, read_change(text), mark, papers)
        self.assertIs(type(told), bool)
        return told

    def setUp(self):
        self.papers = self.look(self.TEXT)["low"][1]
        self.place = ("main", 1)

    def with_row(self, row, holding, place=None):
        place = place or self.place
        paper = self.papers[place]
        return {**self.papers, place: paper[:row] + (holding,) + paper[row + 1:]}

    def test_what_the_looker_tells(self):
        for mark, told in self.look(self.TEXT).items():
            self.assertTrue(self.reads(told[1], mark))

    def test_another_marks_places(self):
        told = self.look(self.TEXT)
        for mark in told:
            for other in told:
                self.assertEqual(self.reads(told[mark][1], other), told[mark][1] == told[other][1], (mark, other))

    def test_a_place_less_or_more(self):
        for place in self.papers:
            self.assertFalse(self.reads({one: self.papers[one] for one in self.papers if one != place}))
        self.assertFalse(self.reads({}))
        self.assertFalse(self.reads({**self.papers, ("main", 3): self.look("")["loop"][1][("main", 3)]}))
        self.assertFalse(self.reads({**self.papers, ("main", 99): ()}))
        self.assertFalse(self.reads({**{one: self.papers[one] for one in self.papers if one != self.place},
                                     ("main", 3): self.look("")["loop"][1][("main", 3)]}))
        self.assertTrue(self.reads({}, "never"))
        self.assertFalse(self.reads({("shut", 1): (None, None, ())}, "never"))
        self.assertFalse(self.reads(self.papers, "never"))

    def test_keys_that_are_no_places(self):
        rest = {one: self.papers[one] for one in self.papers if one != self.place}
        paper = self.papers[self.place]
        for key in (None, "main", 1, ("main",), ("main", True), ("main", "1"), (1, "main"), ("main", 1, 1), ("main", None),
                    (), ("main", (1,)), b"main", frozenset(self.place)):
            self.assertFalse(self.reads({**rest, key: paper}), key)
            self.assertFalse(self.reads({**self.papers, key: paper} if key != ("main", True) else {}), key)
        for thing in odd_things():
            try:
                odd = {**rest, thing: paper}
            except (TypeError, RuntimeError):
                continue
            self.assertFalse(self.reads(odd))

    def test_anything_in_a_papers_stead(self):
        for place in self.papers:
            for thing in odd_things() + [[], list(self.papers[place]), (), None, "paper", self.papers]:
                self.assertFalse(self.reads({**self.papers, place: thing}))
                for row in range(len(self.papers[place])):
                    if thing is not None and not (isinstance(thing, tuple) and thing == ()):
                        self.assertFalse(self.reads(self.with_row(row, thing, place)), (place, row, thing))

    def test_a_list_in_a_tuples_stead(self):
        for place, paper in self.papers.items():
            for row, holding in enumerate(paper):
                if holding:
                    self.assertFalse(self.reads(self.with_row(row, list(holding), place)))
                    self.assertFalse(self.reads(self.with_row(row, tuple(list(pair) for pair in holding), place)))

    def test_a_row_less_or_more(self):
        for place, paper in self.papers.items():
            for other in (paper[:-1], paper[1:], paper + (None,), (None,) + paper, paper + paper[-1:], ()):
                self.assertFalse(self.reads({**self.papers, place: other}))

    def test_no_holding_at_the_row_behind(self):
        for place in self.papers:
            self.assertFalse(self.reads(self.with_row(place[1] + 1, None, place)))
            self.assertFalse(self.reads({**self.papers, place: (None,) * len(self.papers[place])}))

    def test_a_pair_that_the_beginning_has_not(self):
        for pair in (("z", NUMBER), ("s", NUMBER), ("i", NUMBER), ("k", TRUTH), ("p", NUMBER)):
            holding = tuple(sorted({**dict(self.papers[self.place][2]), pair[0]: pair[1]}.items()))
            self.assertFalse(self.reads(self.with_row(2, holding)))

    def test_papers_that_are_not_read(self):
        holding = self.papers[self.place][4]
        self.assertFalse(self.reads(self.with_row(4, None)))
        self.assertFalse(self.reads(self.with_row(4, holding + (("z", NUMBER),))))
        self.assertFalse(self.reads(self.with_row(9, ())))
        self.assertFalse(self.reads(self.with_row(4, (("i", TRUTH),))))
        # A row that no way comes to may have a holding, but then it is to be read, too.
        low = ("deep", 3)
        self.assertTrue(self.reads(self.with_row(3, (("k", NUMBER), ("t", TRUTH)), low)))
        self.assertTrue(self.reads(self.with_row(3, (("k", NUMBER), ("t", TRUTH), ("z", NUMBER)), low)))
        self.assertFalse(self.reads(self.with_row(3, (("k", NUMBER), ("q", ("record", "lost")), ("t", TRUTH)), low)))
        self.assertFalse(self.reads(self.with_row(3, (("k", NUMBER),), low)))
        self.assertFalse(self.reads(self.with_row(3, (), low)))
        self.assertFalse(self.reads(self.with_row(2, (("k", NUMBER), ("t", TRUTH)), low)))

    def test_a_name_less_in_all_holdings(self):
        for name, is_read in (("s", True), ("k", True), ("p", False), ("i", False), ("u", True)):
            paper = tuple(holding and tuple(pair for pair in holding if pair[0] != name)
                          for holding in self.papers[self.place])
            self.assertEqual(self.reads({**self.papers, self.place: paper}), is_read, name)
        for name, is_read in (("s", False), ("k", True), ("t", True)):
            paper = tuple(holding and tuple(pair for pair in holding if pair[0] != name)
                          for holding in self.papers[("deep", 1)])
            self.assertEqual(self.reads({**self.papers, ("deep", 1): paper}), is_read, name)

    def test_read_where_the_looker_tells_not(self):
        text = "out unit\n" + MAIN.replace("  new u unit\n", "  go 8\n")
        self.kept_out(text, "held", ("main", 8), 8)
        i, p, u = ("i", NUMBER), ("p", ("record", "node")), ("u", ("record", "unit"))
        self.assertTrue(self.reads({("main", 8): (None,) * 9 + ((i, p),)}, "held", text))
        self.assertFalse(self.reads({("main", 8): (None,) * 9 + ((i, p, u),)}, "held", text))
        self.assertTrue(self.reads({("main", 8): (None,) * 9 + ((i, p, u),)}, "held"))
        # Where a row is wrong, no paper is read.
        self.assertFalse(self.reads({("main", 3): self.look("")["loop"][1][("main", 3)]}, "loop", text))

    def test_what_is_told_under_another_change(self):
        text = "box many truth = yes\n" + MAIN.replace("  unless (under i #many) 7\n", "  tell 1\n") + "lead many yes\n"
        self.assertFalse(self.reads(self.papers, "low", text))


class WholeRuns(unittest.TestCase):
    def test_what_is_let_in_goes_on(self):
        entries = 0
        for seed, program in enumerate(made_programs(60)):
            changer = Changer(seed + 500)
            for _ in range(3):
                change = changer.change(program)
                told = look(program, "main", change)
                state, met = begun(program, "main", ()), []
                for _ in range(150):
                    mark = at_mark(state)
                    if mark is not None and met.count(mark) < 2:
                        met.append(mark)
                        if told[mark][0] == "in":
                            self.goes_on(program, change, told[mark][1], state)
                            entries += 1
                    state = stepped(program, state)
        self.assertGreater(entries, 80)

    def goes_on(self, program, change, told, state):
        behind = changed(program, change)
        fresh = papers_of(behind)
        papers = tuple(told[(name, r)] for name, _, r, _ in state[2])
        state = led(program, change, state)
        self.assertTrue(fits(behind, state, papers))
        for _ in range(50):
            before, state = state, stepped(behind, state)
            if len(state[2]) > len(before[2]):
                papers += (fresh[state[2][-1][0]],)
            papers = papers[:len(state[2])]
            self.assertTrue(fits(behind, state, papers))


class Asked(Looked):
    def test_what_is_handed_in_stays_and_what_is_told_is_the_askers(self):
        for text in ("", "box many number = 9\n", "out unit\n" + MAIN.replace("  new u unit\n", "  go 8\n")):
            program, change = copy.deepcopy(WHOLE), read_change(text)
            told = look(program, "main", change)
            self.assertTrue(alike(program, WHOLE) and alike(change, read_change(text)))
            again = look(program, "main", change)
            self.assertTrue(alike(told, again))
            kept = copy.deepcopy(again)
            for mark in told:
                if told[mark][0] == "in":
                    reads_entry(program, "main", change, mark, told[mark][1])
                    self.assertTrue(alike(told[mark], again[mark]) and alike(program, WHOLE))
                    self.assertIsNot(told[mark][1], again[mark][1])
                    told[mark][1].clear()
            told.clear()
            for things in (*program, *change[1:]):
                things.clear()
            self.assertTrue(alike(again, kept))
            self.assertTrue(alike(look(WHOLE, "main", read_change(text)), kept))

    def test_each_mark_has_a_dict_of_its_own(self):
        told = self.look("")
        told["never"][1]["spoilt"] = 1
        self.assertTrue(alike(told["unmet"], ("in", {})))

    def test_twenty_parts_of_sixty_rows(self):
        names = ["p" + letter for letter in "abcdefghijklmnopqrst"]
        parts = {}
        for k, name in enumerate(names):
            rows = [("mark", "m" + "abcdefghijklmnopqrst"[k] + "abcdefghijklmnopqrstuvwxyz"[r]) for r in range(20)]
            rows += [("call", "x", names[(k * 7 + r) % 20], (("name", "x"),)) for r in range(39)]
            parts[name] = ((("x", NUMBER),), NUMBER, tuple(rows) + (("back", ("name", "x")),))
        program = ({}, {"b": (NUMBER, 1)}, parts)
        told = look(program, "pa", read_change("box b number = 2\n"))
        self.assertEqual(len(told), 400)
        self.assertEqual({(one[0], len(one[1])) for one in told.values()}, {("in", 39 * 20 + 1)})
        self.assertTrue(reads_entry(program, "pa", read_change(""), "maa", told["maa"][1]))


if __name__ == "__main__":
    unittest.main()
