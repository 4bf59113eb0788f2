"""Changes back, and changes that are apart, points 2, 3 and 29."""

import copy
import unittest

from changewhile.backs import apart, back_of, undoes
from changewhile.changes import changed, is_change
from changewhile.changetexts import change_text, read_change
from changewhile.errors import ChangeError, NotNow
from changewhile.leading import led
from changewhile.lives import Live
from changewhile.programtexts import read_program
from changewhile.states import begun, run_on
from changewhile.terms import read_term
from tests.changing import Changer
from tests.examples import alike
from tests.making import made_programs
from tests.test_lives import live_at

PROGRAM = read_program("""\
kind gone a number
kind node n number, to [node]
kind unit
box all [node] = []
box flag truth = yes
box many number = 5
part main () number
  back 0
part sub (x number) number
  mark low
  back x
""")
RECORDS = {"r0": ("node", (("n", 3), ("to", ("r0",)))), "r1": ("gone", (("a", 4),)), "r2": ("node", (("n", 0), ("to", ()))),
           "r3": ("", ())}
STATE = ({"all": ("r0", "r2"), "flag": False, "many": 8}, RECORDS, (("main", PROGRAM[2]["main"], 0, {"p": "r0"}),), (1,), None)


def leads(text):
    """Leads of fields: pairs of a field and the text of its term."""
    return tuple((field, read_term(term)) for field, term in text)


class Backs(unittest.TestCase):
    def back(self, text, wanted, kindleads=None, boxleads=None):
        change = read_change(text)
        changed(PROGRAM, change)
        told = back_of(PROGRAM, change, kindleads or {}, boxleads or {})
        self.assertTrue(is_change(told))
        self.assertEqual(change_text(told), wanted)
        behind = changed(PROGRAM, change)
        try:
            self.assertTrue(alike(changed(behind, told), PROGRAM))
        except ChangeError as refusal:
            self.assertEqual(type(refusal).__name__, "NoLead")
        return told

    def test_what_was_put_in_goes_out(self):
        self.back("kind zoo\nbox aa number = 1\npart mid () number\n  back 1\n", "out aa\nout mid\nout zoo\n")

    def test_what_was_put_anew_is_put_as_it_was(self):
        self.back("kind unit\nbox many number = 1\n", "kind unit\nbox many number = 5\n")
        self.back("kind node n truth, to [node]\nlead node n yes\n", "kind node n number, to [node]\nlead node n (pick n 1 0)\n",
                  {"node": leads([("n", "(pick n 1 0)")])})
        self.back("box flag number = 0\nlead flag (pick it 1 0)\n", "box flag truth = yes\nlead flag (same it 1)\n",
                  boxleads={"flag": read_term("(same it 1)")})
        self.back("part main () number\n  tell 3\n  back 1\n", "part main () number\n  back 0\n")
        self.back("kind node n truth, to [node]\nlead node n yes\n", "kind node n number, to [node]\n")

    def test_what_was_taken_out_is_put_in(self):
        self.back("out flag\nout gone\nout sub\n", "kind gone a number\nbox flag truth = yes\npart sub (x number) number\n"
                                                    "  mark low\n  back x\n")

    def test_all_at_once(self):
        self.back("out gone\nout many\nout sub\nkind node m number\nkind zz\nbox aa truth = no\nbox all [node] = []\n"
                  "part low () number\n  mark low\n  back 1\nlead node m n\n",
                  "out aa\nout low\nout zz\nkind gone a number\nkind node n number, to [node]\nbox all [node] = []\n"
                  "box many number = 5\npart sub (x number) number\n  mark low\n  back x\nlead node n m, to (empty node)\n",
                  {"node": leads([("n", "m"), ("to", "(empty node)")])})

    def test_nothing(self):
        self.back("", "")

    def test_told_dicts_are_the_askers_and_what_is_handed_in_stays(self):
        program, change = copy.deepcopy(PROGRAM), read_change("out flag\nkind node m number\nlead node m n\n")
        kindleads, boxleads = {"node": leads([("n", "m"), ("to", "(empty node)")])}, {}
        told = back_of(program, change, kindleads, boxleads)
        self.assertTrue(alike(program, PROGRAM))
        self.assertTrue(alike((kindleads, boxleads), ({"node": leads([("n", "m"), ("to", "(empty node)")])}, {})))
        kept = copy.deepcopy(told)
        self.assertTrue(alike(back_of(program, change, kindleads, boxleads), told))
        for things in (*program, *change[1:], kindleads):
            things.clear()
        boxleads["spoilt"] = 1
        self.assertTrue(alike(told, kept))
        program = copy.deepcopy(PROGRAM)
        kindleads = {"unit": ()}
        told = back_of(program, read_change("kind unit\n"), kindleads, boxleads)
        for things in told[1:]:
            things.clear()
        self.assertTrue(alike(program, PROGRAM))
        self.assertEqual(kindleads, {"unit": ()})

    def test_made_programs(self):
        for seed, program in enumerate(made_programs(40)):
            change = Changer(seed + 40).change(program)
            behind = changed(program, change)
            kindleads = {name: tuple((field, term) for field, term in leads_back(program, behind, name))
                         for name in program[0] if name in behind[0] and program[0][name] != behind[0][name]}
            boxleads = {box: value_term(program[1][box][0]) for box in program[1]
                        if box in behind[1] and program[1][box][0] != behind[1][box][0]}
            told = back_of(program, change, {name: kindleads[name] for name in kindleads if name in change[1]}, boxleads)
            self.assertTrue(is_change(told))
            try:
                self.assertTrue(alike(changed(behind, told), program))
            except ChangeError as refusal:
                # No term is of a record's kind, where no field was.
                self.assertEqual(type(refusal).__name__, "NoLead")


def value_term(kind):
    """A term of a kind that has one without names."""
    return {"number": ("number", 0), "truth": ("truth", True), "list": ("empty", kind[-1])}[kind[0]]


def leads_back(program, behind, name):
    return [(field, value_term(kind)) for field, kind in program[0][name]
            if (field, kind) not in behind[0][name] and kind[0] != "record"]


class Undoes(unittest.TestCase):
    def told(self, text, wanted, state=STATE, kindleads=None, boxleads=None):
        change = read_change(text)
        back = back_of(PROGRAM, change, {name: leads(told) for name, told in (kindleads or {}).items()},
                       {box: read_term(told) for box, told in (boxleads or {}).items()})
        kept = copy.deepcopy((change, back, state))
        told = undoes(PROGRAM, change, back, state)
        self.assertIs(told, wanted)
        self.assertTrue(alike((change, back, state), kept))
        self.assertIs(undoes(PROGRAM, change, back, state), wanted)

    def with_values(self, **values):
        return ({**STATE[0], **values}, *STATE[1:])

    def with_records(self, records):
        return ({"all": (), "flag": False, "many": 8}, records, (), (), None)

    def test_nothing_led(self):
        for text in ("", "kind unit\n", "box many number = 1\n", "part main () number\n  back 1\n", "kind zz\n", "out sub\n",
                     "out unit\n", "box aa number = 1\n"):
            self.told(text, True)

    def test_leads_that_undo_one_another(self):
        self.told("box many number = 0\nlead many (add it 7)\n", True, boxleads={"many": "(less it 7)"})
        self.told("box flag number = 0\nlead flag (pick it 1 0)\n", True, boxleads={"flag": "(same it 1)"})
        self.told("kind node n [number], to [node]\nlead node n (list n)\n", True, kindleads={"node": [("n", "(at n 0 9)")]})
        self.told("kind node m number, to [node]\nlead node m n\n", True, kindleads={"node": [("n", "m")]})
        self.told("box all [[node]] = []\nlead all (list it it)\n", True, boxleads={"all": "(at it 1 (empty node))"})

    def test_leads_that_do_not(self):
        self.told("box many number = 0\nlead many (add it 7)\n", False)
        self.told("box many number = 0\nlead many (add it 7)\n", False, boxleads={"many": "(add it 7)"})
        self.told("kind node n number, to [node]\nlead node n (add n 1)\n", False)
        self.told("box flag truth = yes\nlead flag (not it)\n", False)
        self.told("box flag number = 0\nlead flag (pick it 1 0)\n", False, boxleads={"flag": "it"})

    def test_only_for_some_values(self):
        text, back = "box many number = 0\nlead many (pick (under it 10) it 0)\n", {"many": "it"}
        self.told(text, True, boxleads=back)
        self.told(text, True, self.with_values(many=0), boxleads=back)
        self.told(text, False, self.with_values(many=10), boxleads=back)
        text, back = "box all [node] = []\nlead all (join it it)\n", {"all": "(empty node)"}
        self.told(text, False, boxleads=back)
        self.told(text, True, self.with_values(all=()), boxleads=back)

    def test_truths_are_no_numbers(self):
        text = "box flag number = 0\nlead flag (pick it 1 0)\n"
        for flag in (True, False):
            self.told(text, False, self.with_values(flag=flag), boxleads={"flag": "it"})
            self.told(text, True, self.with_values(flag=flag), boxleads={"flag": "(same it 1)"})

    def test_fields_dropped_and_told_again(self):
        text = "kind node to [node]\n"
        self.told(text, False, kindleads={"node": [("n", "3")]})
        self.told(text, True, self.with_records({"r0": ("node", (("n", 3), ("to", ())))}), kindleads={"node": [("n", "3")]})
        self.told(text, False, self.with_records({"r0": ("node", (("n", 3), ("to", ()))), "r1": ("node", (("n", 4), ("to", ())))}),
                  kindleads={"node": [("n", "3")]})
        self.told("kind node n number\n", False, kindleads={"node": [("to", "(empty node)")]})
        self.told("kind node n number\n", True, self.with_records({"r0": ("node", (("n", 3), ("to", ()))), "r1": ("", ())}),
                  kindleads={"node": [("to", "(empty node)")]})
        # Without a lead, such a record cannot be led back at all.
        self.told(text, False)
        self.told(text, True, self.with_records({"r0": ("gone", (("a", 1),)), "r1": ("unit", ())}))

    def test_boxes_and_records_that_are_taken_out(self):
        self.told("out many\n", False)
        self.told("out many\n", True, self.with_values(many=5))
        self.told("out flag\n", False)
        self.told("out flag\n", True, self.with_values(flag=True))
        self.told("out unit\n", False, self.with_records({"r0": ("unit", ())}))
        self.told("out unit\n", True, self.with_records({"r0": ("", ()), "r1": ("gone", (("a", 1),))}))
        self.told("out gone\n", False)
        self.told("out gone\n", True, self.with_records({"r0": ("node", (("n", 3), ("to", ()))), "r1": ("", ())}))

    def test_another_change_than_the_one_back(self):
        change = read_change("box aa number = 1\nbox many number = 1\nlead many 8\n")
        for text, wanted in (("out aa\n", True), ("", False), ("out aa\nout many\n", False),
                             ("out aa\nbox many number = 1\nlead many (add it 1)\n", False)):
            self.assertIs(undoes(PROGRAM, change, read_change(text), STATE), wanted)

    def test_states_without_records_and_ended_ones(self):
        for state in (self.with_records({}), self.with_records({"r0": ("", ())})):
            self.told("out gone\nkind node to [node]\n", True, state, kindleads={"node": [("n", "9")]})
        self.told("out gone\n", False, STATE[:2] + ((), (1,), ("back", "r0")))
        self.told("", True, STATE[:2] + ((), (1,), ("deep",)))


class Apart(unittest.TestCase):
    def told(self, one, other, wanted):
        for first, second in ((one, other), (other, one)):
            told = apart(read_change(first), read_change(second))
            self.assertIs(told, wanted, (first, second))

    def test_names_out_and_put(self):
        part = "part aa () number\n  back 0\n"
        sorts = ["out aa\n", "kind aa\n", "box aa number = 1\n", part]
        for one in sorts:
            for other in sorts:
                self.told(one, other, False)
                self.told(one, other.replace("aa", "ab"), True)

    def test_with_many_names(self):
        one = "out aa\nout bb\nkind cc\nkind dd\nbox ee number = 1\nbox ff number = 1\npart gg () number\n  back 0\n"
        self.told(one, "", True)
        self.told("", "", True)
        self.told(one, one, False)
        self.told(one, one.replace("aa", "az").replace("bb", "bz").replace("cc", "cz").replace("dd", "dz").replace(
            "ee", "ez").replace("ff", "fz").replace("gg", "gz"), True)
        for name in ("aa", "bb", "cc", "dd", "ee", "ff", "gg"):
            self.told(one, "out " + name + "\n", False)

    def test_names_that_only_stand_within(self):
        one = "kind aa b cc\nbox dd [cc] = []\npart ee (ff gg) number\n  call x hh #ii\n  new y jj k 1\n  mark ll\n  back 0\n"
        for name in ("b", "cc", "ff", "gg", "hh", "ii", "jj", "k", "ll", "x", "y"):
            self.told(one, "out " + name + "\n", True)
            self.told(one, "kind " + name + "\n", True)
        self.told("kind aa b number\nlead aa b c\n", "out b\nout c\n", True)
        self.told("box aa number = 1\nlead aa it\n", "kind it\n", True)
        self.told("kind aa\nlead bb c 1\n", "out bb\n", True)

    def test_what_is_handed_in_stays(self):
        one, other = read_change("out aa\nkind bb\n"), read_change("box aa number = 1\n")
        kept = copy.deepcopy((one, other))
        self.assertFalse(apart(one, other))
        self.assertTrue(alike((one, other), kept))


RUN = read_program("""\
kind node n number
box count number = 2
box other truth = no
part main () number
  new p node n 7
  let i 0
  mark here
  put count (add #count (field p n))
  call x sub i
  tell (add x #count)
  let i (add i 1)
  unless (same i 5) 2
  back #count
part sub (k number) number
  mark low
  back (times k k)
""")


class WholeRuns(unittest.TestCase):
    def test_gone_there_and_back(self):
        change = read_change("kind node m number\nbox count [number] = []\npart main () number\n  back 0\n"
                             "part sub (k number) number\n  back 77\nlead node m (add n 1)\nlead count (list it)\n")
        program = changed(RUN, read_change("box count number = 2\npart main () number\n  new p node n 7\n  let i 0\n  let q p\n"
                                           "  let p 0\n  mark here\n  tell i\n  let i (add i 1)\n  unless (same i 5) 4\n  back i\n"))
        whole = run_on(program, begun(program, "main", ()), 500)
        back = back_of(program, change, {"node": leads([("n", "(less m 1)")])}, {"count": read_term("(at it 0 0)")})
        for ways in (("once", "once"), ("touch", "touch"), ("once", "touch"), ("touch", "once")):
            live = live_at("here", program, "main", ())
            ahead, frames = live.state(), live.old()
            self.assertTrue(undoes(program, change, back, ahead))
            live.enter(change, ways[0])
            self.assertEqual(live.old(), [0])
            live.enter(back, ways[1])
            self.assertTrue(alike(live.state(), ahead) and alike(live.program(), program))
            self.assertEqual(live.old(), frames)
            for _ in range(300):
                live.step()
            self.assertTrue(alike(live.state(), whole))

    def test_two_that_are_apart_in_either_order(self):
        changes = ["box count number = 9\nlead count (add it 100)\n", "box other truth = no\nlead other (not it)\n",
                   "kind node k number, n number\npart main () number\n  back 0\nlead node k 5\n", "box more number = 6\n",
                   "part sub (k number) number\n  back (add k 50)\n", "kind unit\n"]
        for mark in ("here", "low"):
            for one in changes:
                for other in changes:
                    pair = [read_change(one), read_change(other)]
                    self.assertEqual(apart(*pair), one != other)
                    if not apart(*pair):
                        continue
                    ends = []
                    for order in (pair, pair[::-1]):
                        live = live_at(mark, RUN, "main", ())
                        try:
                            for change in order:
                                live.enter(change)
                        except NotNow:
                            continue
                        told = [live.program(), live.state(), live.old()]
                        for _ in range(300):
                            live.step()
                        ends.append(told + [live.state()])
                    if len(ends) == 2:
                        self.assertTrue(alike(ends[0], ends[1]))

    def test_made_programs_in_either_order(self):
        met = 0
        for seed, program in enumerate(made_programs(60)):
            changer = Changer(seed + 640, fate=0.2)
            live = Live(program, "main", ())
            for _ in range(100):
                if live.mark():
                    break
                live.step()
            changes = [changer.change(program) for _ in range(4)]
            for one in changes:
                for other in changes:
                    if apart(one, other) and live.mark():
                        ends = [self.end(program, live, order) for order in ((one, other), (other, one))]
                        if None not in ends:
                            met += 1
                            self.assertTrue(alike(ends[0], ends[1]))
        self.assertGreater(met, 20)

    def end(self, program, live, order):
        """The program and the states behind two changes at the mark of a live run, or None."""
        state = live.state()
        again = Live(program, "main", ())
        while not alike(again.state(), state):
            again.step()
        for change in order:
            try:
                again.enter(change)
            except ChangeError:
                return None
        told = [again.program(), again.state()]
        for _ in range(60):
            again.step()
        return told + [again.state()]

    def test_led_there_and_back_by_hand(self):
        change = read_change("box count number = 9\nlead count (add it 3)\n")
        back = back_of(RUN, change, {}, {"count": read_term("(less it 3)")})
        state = run_on(RUN, begun(RUN, "main", ()), 9)
        there = led(RUN, change, state)
        self.assertTrue(alike(led(changed(RUN, change), back, there), state))
        self.assertTrue(undoes(RUN, change, back, state))


if __name__ == "__main__":
    unittest.main()
