"""States led over by changes, points 2 and 25."""

import copy
import unittest

from changewhile.changes import changed
from changewhile.changetexts import read_change
from changewhile.leading import led
from changewhile.programtexts import read_program
from changewhile.states import begun, run_on
from tests.changing import Changer
from tests.examples import alike
from tests.making import made_programs

PROGRAM = read_program("""\
kind node n number, to [node], x truth
kind pair a number, b node
kind unit
box all [[node]] = []
box flag truth = yes
box many number = 5
part main () number
  back 0
""")

BOXES = {"all": (("r0", "r2"), ()), "flag": False, "many": 8}
RECORDS = {
    "r0": ("node", (("n", 3), ("to", ("r0", "r2")), ("x", True))),
    "r1": ("pair", (("a", 4), ("b", "r0"))),
    "r2": ("node", (("n", 10), ("to", ()), ("x", False))),
    "r3": ("", ()),
    "r4": ("unit", ()),
}
FRAME = ("main", PROGRAM[2]["main"], 0, {"p": "r1", "xs": (1, "r2")})
STATE = (BOXES, RECORDS, (FRAME, ("gone", PROGRAM[2]["main"], 0, {})), (1, 2, 3), None)


class Led(unittest.TestCase):
    def led(self, text, boxes=None, gone=(), records=None, state=STATE, program=PROGRAM):
        """Check what is told against what is to be otherwise in boxes and records, and all else to be as it was."""
        change = read_change(text)
        changed(program, change)
        kept = copy.deepcopy((state, change, program))
        told = led(program, change, state)
        self.assertTrue(alike((state, change, program), kept))
        wanted = {name: value for name, value in {**state[0], **(boxes or {})}.items() if name not in gone}
        self.assertTrue(alike(told, (wanted, {**state[1], **(records or {})}, *state[2:])), told)
        self.assertEqual(list(told[1]), list(state[1]))
        self.assertTrue(alike(led(program, change, state), told))
        return told

    def test_nothing(self):
        for text in ("", "part main () number\n  back 1\n", "kind node n number, to [node], x truth\n", "kind unit\n",
                     "box many number = 77\n", "box flag truth = no\nbox many number = 0\nlead flag it\n",
                     "kind pair a number, b node\nlead pair\n", "kind other n number\n"):
            self.led(text)

    def test_fields_by_their_leads(self):
        self.led("kind node n number, to [node], x truth\nlead node n (add n 1)\n", records={
            "r0": ("node", (("n", 4), ("to", ("r0", "r2")), ("x", True))),
            "r2": ("node", (("n", 11), ("to", ()), ("x", False)))})
        self.led("kind pair a truth, b node\nlead pair a (under a 4)\n", records={
            "r1": ("pair", (("a", False), ("b", "r0")))})
        self.led("kind node n number, to [node], x truth\nlead node n 7, x yes\n", records={
            "r0": ("node", (("n", 7), ("to", ("r0", "r2")), ("x", True))),
            "r2": ("node", (("n", 7), ("to", ()), ("x", True)))})
        self.led("kind unit a number, z [unit]\nlead unit a 5, z (empty unit)\n", records={
            "r4": ("unit", (("a", 5), ("z", ())))})

    def test_all_by_the_old_values(self):
        self.led("kind node n number, to [node], x truth, y number\nlead node n (pick x 1 2), x (under n 5), y n\n",
                 records={"r0": ("node", (("n", 1), ("to", ("r0", "r2")), ("x", True), ("y", 3))),
                          "r2": ("node", (("n", 2), ("to", ()), ("x", False), ("y", 10)))})

    def test_fields_fewer_and_more(self):
        self.led("kind pair b node, c node, d [node]\nlead pair c b, d (list b b)\n", records={
            "r1": ("pair", (("b", "r0"), ("c", "r0"), ("d", ("r0", "r0"))))})
        self.led("kind pair\n", records={"r1": ("pair", ())})
        self.led("kind node to [[node]]\nlead node to (list to to (empty node))\n", records={
            "r0": ("node", (("to", (("r0", "r2"), ("r0", "r2"), ())),)), "r2": ("node", (("to", ((), (), ())),))})

    def test_boxes(self):
        self.led("box many number = 0\nlead many (times it it)\n", {"many": 64})
        self.led("box many truth = no\nlead many (same it 8)\n", {"many": True})
        self.led("box flag [truth] = []\nlead flag (list it yes)\n", {"flag": (False, True)})
        self.led("box all [node] = []\nlead all (at it 0 (empty node))\n", {"all": ("r0", "r2")})
        self.led("box flag truth = no\nbox many number = 0\nlead flag (not it)\nlead many 3\n", {"many": 3, "flag": True})

    def test_new_boxes_and_boxes_out(self):
        self.led("box more [number] = [1, 2]\n", {"more": (1, 2)})
        self.led("out all\nout many\nbox more truth = no\n", {"more": False}, gone=("all", "many"))

    def test_kinds_out(self):
        self.led("out pair\n", records={"r1": ("", ())})
        self.led("out unit\nkind unity\n", records={"r4": ("", ())})
        self.led("out all\nout node\nkind pair a number\n", gone=("all",), records={
            "r0": ("", ()), "r1": ("pair", (("a", 4),)), "r2": ("", ())})

    def test_a_kind_that_comes_in_again(self):
        told = self.led("out pair\nout unit\n", records={"r1": ("", ()), "r4": ("", ())})
        behind = changed(PROGRAM, read_change("out pair\nout unit\n"))
        self.led("kind pair a number\nkind unit n number\n", state=told, program=behind)
        self.led("kind pair a number\nkind unit n number\n", state=STATE[:1] + ({"r0": ("", ())},) + STATE[2:],
                 program=behind)

    def test_frames_words_and_end_stay(self):
        for end in (None, ("back", "r1"), ("deep",)):
            for frames in ((), (FRAME,)):
                told = self.led("out pair\nbox many number = 1\nlead many 3\n", {"many": 3}, records={"r1": ("", ())},
                                state=(BOXES, RECORDS, frames, (4,), end))
                self.assertTrue(alike(told[2:], (frames, (4,), end)))

    def test_dicts_of_its_own(self):
        for text in ("", "box many number = 1\n", "out pair\n"):
            state = copy.deepcopy(STATE)
            change = read_change(text)
            told = led(PROGRAM, change, state)
            kept = copy.deepcopy(told)
            self.assertIsNot(told[0], state[0])
            self.assertIsNot(told[1], state[1])
            for things in (*change[1:], state[0], state[1], *[frame[3] for frame in state[2]]):
                things.clear()
            self.assertTrue(alike(told, kept))
            state = copy.deepcopy(STATE)
            told = led(PROGRAM, read_change(text), state)
            for things in (told[0], told[1], *[frame[3] for frame in told[2]]):
                things.clear()
            self.assertTrue(alike(state, STATE))

    def test_leads_that_hand_on_refs_within_lists_of_lists(self):
        self.led("kind pair a [[node]], b node\nlead pair a (list (list b) (empty node))\n", records={
            "r1": ("pair", (("a", (("r0",), ())), ("b", "r0")))})
        state = ({"all": (("r3", "r0"), ("r3",)), "flag": True, "many": 0}, RECORDS, (), (), None)
        self.led("box all [[[node]]] = []\nlead all (list it it)\n", {"all": ((("r3", "r0"), ("r3",)),) * 2}, state=state)

    def test_two_thousand_records(self):
        program = read_program("kind n k number, to [n]\nbox all [n] = []\npart main () number\n  new x n k 1, to #all\n"
                               "  put all (list x)\n  go 0\n")
        state = run_on(program, begun(program, "main", ()), 5000)
        told = led(program, read_change("kind n k number, l number, to [n]\npart main () number\n  back 0\n"
                                        "lead n l (add k 1)\n"), state)
        self.assertEqual(len(told[1]), 1667)
        self.assertTrue(alike(told[1]["r1500"], ("n", (("k", 1), ("l", 2), ("to", ("r1499",))))))

    def test_made_programs(self):
        for seed, program in enumerate(made_programs(40)):
            change = Changer(seed + 900).change(program)
            state = run_on(program, begun(program, "main", ()), 90)
            kept = copy.deepcopy((program, change, state))
            told = led(program, change, state)
            self.assertTrue(alike((program, change, state), kept))
            self.assertEqual(sorted(told[0]), sorted(changed(program, change)[1]))
            for ref, (name, pairs) in told[1].items():
                self.assertEqual(name, "" if state[1][ref][0] in change[0] else state[1][ref][0])
                self.assertEqual([field for field, _ in pairs],
                                 [field for field, _ in changed(program, change)[0].get(name, ())])


if __name__ == "__main__":
    unittest.main()
