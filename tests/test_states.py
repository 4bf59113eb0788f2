"""States of runs, points 2, 3, 5, 16, 17 and 18."""

import copy
import itertools
import unittest

from changewhile import errors
from changewhile.errors import ChangeError, Stuck
from changewhile.papers import grown, papers_of
from changewhile.programtexts import read_program
from changewhile.rows import read_row
from changewhile.states import begun, fits, run_on, stepped
from changewhile.values import is_plain, is_value
from tests.examples import NUMBER, TRUTH, alike, odd_things
from tests.making import made_programs

PROGRAM = read_program("""\
kind bare
kind node n number, to [node]
box count number = 5
box flag truth = yes
box nodes [node] = []
part main () number
  back 0
part two (x number, ns [node]) truth
  back yes
""")

RECORDS = {"r0": ("node", (("n", 1), ("to", ()))), "r1": ("", ()), "r2": ("bare", ())}
HELD = {"x": 1, "t": True, "f": False, "xs": (1, 2), "p": "r0", "dead": "r1", "q": "r2", "away": "r9",
        "ps": ("r0", "r0"), "mixed": ("r0", "r2"), "deads": ("r1",)}


def at_row(text, gives=NUMBER, held=None, records=None, name="here", row=2):
    """A state of which the last frame stands at such a row, in a part of no program."""
    rows = (("tell", ("number", 0)),) * row + (read_row(text),) + (("back", ("number", 0)),) * 60
    part = ((), gives, rows)
    frame = (name, part, row, dict(HELD if held is None else held))
    boxes = {"count": 5, "flag": True, "nodes": ()}
    return (boxes, dict(RECORDS if records is None else records), (frame,), (7,), None)


def dicts_of(state):
    boxes, records, frames, _, _ = state
    return [boxes, records, *[frame[3] for frame in frames]]


class Begun(unittest.TestCase):
    def test_a_run_begins(self):
        state = begun(PROGRAM, "two", (3, ()))
        self.assertTrue(alike(state, ({"count": 5, "flag": True, "nodes": ()}, {},
                                      (("two", PROGRAM[2]["two"], 0, {"x": 3, "ns": ()}),), (), None)))
        state = begun(PROGRAM, "main", ())
        self.assertTrue(alike(state[2], (("main", PROGRAM[2]["main"], 0, {}),)))

    def test_without_boxes(self):
        program = read_program("part p (b truth, a [[number]]) number\n  go 0\n")
        self.assertTrue(alike(begun(program, "p", (False, ((1,), ()))),
                              ({}, {}, (("p", program[2]["p"], 0, {"b": False, "a": ((1,), ())}),), (), None)))

    def stuck(self, program, name, values):
        with self.assertRaises(Stuck, msg=(name, values)) as caught:
            begun(program, name, values)
        self.assertEqual((caught.exception.name, caught.exception.row), (name, -1))

    def test_parts_that_are_not_there(self):
        for name in ["lacking", "count", "node", "x", "mai", "mains"]:
            self.stuck(PROGRAM, name, ())
            self.stuck(PROGRAM, name, (3, ()))
        self.stuck(({}, {}, {}), "main", ())

    def test_too_few_and_too_many_values(self):
        for values in [(), (3,), (3, (), 1), (3, (), ()), (3, 3, ())]:
            self.stuck(PROGRAM, "two", values)
        for values in [(1,), ((),), (True, False)]:
            self.stuck(PROGRAM, "main", values)

    def test_values_of_other_kinds(self):
        for values in [(True, ()), ((), ()), ((), 3), (3, 3), (3, True), (3, (1,)), (3, ((),)), (3, (True,))]:
            self.stuck(PROGRAM, "two", values)
        program = read_program("kind n\npart p (a n) n\n  back a\npart q (a [number], b truth) n\n  go 0\n")
        for value in (0, True, (), (1,), "r0"):
            self.stuck(program, "p", (value,))
        for values in [((True,), True), ((1, False), True), ((1,), 1), ((1,), 0), ((1,), ()), (1, True), (((1,),), True)]:
            self.stuck(program, "q", values)
        begun(program, "q", ((1,), True))

    def test_each_time_dicts_of_its_own(self):
        first, second = begun(PROGRAM, "two", (3, ())), begun(PROGRAM, "two", (3, ()))
        for one, other in zip(dicts_of(first), dicts_of(second)):
            self.assertIsNot(one, other)
            one.clear()
        self.assertTrue(alike(second, begun(PROGRAM, "two", (3, ()))))


class Rows(unittest.TestCase):
    """One step of each sort of rows, and what of it is changed."""

    def told(self, text, gives=NUMBER, **wanted):
        state = at_row(text, gives)
        before = copy.deepcopy(state)
        told = stepped(PROGRAM, state)
        boxes, records, frames, words, end = before
        name, part, row, held = frames[0]
        frame = (name, part, wanted.get("row", row + 1), {**held, **wanted.get("held", {})})
        self.assertTrue(alike(told, ({**boxes, **wanted.get("boxes", {})}, {**records, **wanted.get("records", {})},
                                     wanted.get("frames", (frame,)), words + wanted.get("words", ()),
                                     wanted.get("end"))), (text, told))
        self.assertTrue(alike(state, before))
        self.assertTrue(alike(stepped(PROGRAM, state), told))

    def test_let(self):
        self.told("let x (add x 3)", held={"x": 4})
        self.told("let y xs", held={"y": (1, 2)})
        self.told("let x yes", held={"x": True})
        self.told("let y (list 1 yes)", held={"y": (1, True)})
        self.told("let y dead", held={"y": "r1"})
        self.told("let y #count", held={"y": 5})
        self.told("let y (field p to)", held={"y": ()})

    def test_put(self):
        self.told("put count (add #count 1)", boxes={"count": 6})
        self.told("put flag f", boxes={"flag": False})
        self.told("put nodes ps", boxes={"nodes": ("r0", "r0")})
        self.told("put nodes (empty truth)", boxes={"nodes": ()})

    def test_set(self):
        self.told("set p n 9", records={"r0": ("node", (("n", 9), ("to", ())))})
        self.told("set p to (list p p)", records={"r0": ("node", (("n", 1), ("to", ("r0", "r0"))))})
        self.told("set (at ps 1 away) n (add (field p n) 1)", records={"r0": ("node", (("n", 2), ("to", ())))})

    def test_tell(self):
        self.told("tell 3", words=(3,))
        self.told("tell (less 0 1)", words=(10 ** 12 - 1,))

    def test_mark_and_go(self):
        self.told("mark m")
        self.told("go 0", row=0)
        self.told("go 2", row=2)
        self.told("go 60", row=60)

    def test_unless(self):
        self.told("unless yes 0")
        self.told("unless no 0", row=0)
        self.told("unless f 2", row=2)
        self.told("unless t 2")
        self.told("unless (under x 1) 50", row=50)
        self.told("unless no 3", row=3)

    def test_new(self):
        self.told("new y bare", held={"y": "r3"}, records={"r3": ("bare", ())})
        self.told("new p node n (add x 1), to (list p)", held={"p": "r3"},
                  records={"r3": ("node", (("n", 2), ("to", ("r0",))))})

    def test_refs_come_in_turn(self):
        program = read_program("kind bare\npart p () number\n  new x bare\n  new y bare\n  go 0\n")
        state = begun(program, "p", ())
        for many in range(1, 31):
            state = stepped(program, state) if many % 2 else run_on(program, state, 2)
            state = stepped(program, state) if state[2][0][2] == 2 else state
            self.assertEqual(list(state[1]), ["r" + str(k) for k in range(len(state[1]))])
        self.assertGreater(len(state[1]), 11)

    def test_call(self):
        frames = at_row("call y two x ps")[2]
        self.told("call y two x ps", row=2, frames=(*frames, ("two", PROGRAM[2]["two"], 0, {"x": 1, "ns": ("r0", "r0")})))
        frames = at_row("call y main")[2]
        self.told("call y main", frames=(*frames, ("main", PROGRAM[2]["main"], 0, {})))

    def test_back_of_the_only_frame(self):
        self.told("back (add x 1)", frames=(), end=("back", 2))
        self.told("back f", TRUTH, frames=(), end=("back", False))
        self.told("back ps", ("list", ("record", "node")), frames=(), end=("back", ("r0", "r0")))
        self.told("back p", ("record", "node"), frames=(), end=("back", "r0"))

    def test_back_to_the_calling_frame(self):
        for name in ("y", "x"):
            frames = at_row("call " + name + " main")[2]
            called = at_row("back (add x 4)", held={"x": 9, "z": 1}, name="sub")[2]
            boxes, records, _, words, end = at_row("tell 1")
            told = stepped(PROGRAM, (boxes, records, frames + called, words, end))
            wanted = (frames[0][0], frames[0][1], 3, {**HELD, name: 13})
            self.assertTrue(alike(told, (boxes, records, (wanted,), words, end)))

    def test_back_within_three_frames(self):
        low, mid = at_row("call y main", name="low")[2], at_row("call w main", name="mid", row=4)[2]
        last = at_row("back 8", name="last")[2]
        boxes, records, _, words, end = at_row("tell 1")
        told = stepped(PROGRAM, (boxes, records, low + mid + last, words, end))
        self.assertTrue(alike(told[2], low + (("mid", mid[0][1], 5, {**HELD, "w": 8}),)))

    def test_an_ended_state_stays(self):
        for end in [("back", 3), ("back", ("r0",)), ("deep",)]:
            for frames in [(), at_row("let y 1")[2], at_row("let y lacking")[2] * 60]:
                boxes, records, _, words, _ = at_row("tell 1")
                state = (boxes, records, frames, words, end)
                for told in (stepped(PROGRAM, state), run_on(PROGRAM, state, 0), run_on(PROGRAM, state, 10 ** 9)):
                    self.assertTrue(alike(told, state))
                    for one, other in zip(dicts_of(told), dicts_of(state)):
                        self.assertIsNot(one, other)


class Deep(unittest.TestCase):
    def setUp(self):
        self.program = read_program("part p (n number) number\n  mark m\n  call x p (add n 1)\n  back x\n"
                                    "part q () number\n  call x lacking\n  back x\n"
                                    "part s () number\n  call x p yes\n  back x\n")

    def test_the_sixty_first_frame(self):
        state = begun(self.program, "p", (0,))
        for k in range(59):
            state = run_on(self.program, state, 2)
            self.assertEqual((len(state[2]), state[4]), (k + 2, None))
        state = stepped(self.program, state)
        self.assertEqual((len(state[2]), state[2][-1][2]), (60, 1))
        told = stepped(self.program, state)
        self.assertTrue(alike(told, state[:4] + (("deep",),)))
        self.assertEqual([frame[3]["n"] for frame in told[2]], list(range(60)))
        self.assertTrue(alike(stepped(self.program, told), told))
        self.assertTrue(alike(run_on(self.program, begun(self.program, "p", (0,)), 5000), told))

    def test_sixty_frames_go_on_where_no_call_is_done(self):
        state = run_on(self.program, begun(self.program, "p", (0,)), 118)
        self.assertEqual((len(state[2]), state[2][-1][2], state[4]), (60, 0, None))
        self.assertEqual(len(stepped(self.program, state)[2]), 60)
        name, part, _, held = state[2][-1]
        other = state[:2] + (state[2][:-1] + ((name, part, 2, {**held, "x": 3}),),) + state[3:]
        told = stepped(self.program, other)
        self.assertEqual((len(told[2]), told[2][-1][3]["x"], told[2][-1][2]), (59, 3, 2))

    def test_only_where_the_call_can_be_done(self):
        state = run_on(self.program, begun(self.program, "p", (0,)), 119)
        for part in "qs":
            frame = (part, self.program[2][part], 0, {})
            with self.assertRaises(Stuck) as caught:
                stepped(self.program, state[:2] + (state[2][:-1] + (frame,),) + state[3:])
            self.assertEqual((caught.exception.name, caught.exception.row), (part, 0))


class Sticking(unittest.TestCase):
    """The ways in which a row cannot be done."""

    def stuck(self, texts, gives=NUMBER, program=PROGRAM, held=None, records=None):
        for text in texts:
            for name, row in (("here", 2), ("main", 0), ("zz", 30)):
                state = at_row(text, gives, held, records, name, row)
                before = copy.deepcopy(state)
                for step in (stepped, lambda program, state: run_on(program, state, 3)):
                    with self.assertRaises(Stuck, msg=text) as caught:
                        step(program, state)
                    self.assertEqual((caught.exception.name, caught.exception.row), (name, row), text)
                    self.assertIs(type(caught.exception), Stuck)
                    self.assertIsInstance(caught.exception, ChangeError)
                self.assertTrue(alike(state, before))

    def test_a_term_that_is_stuck(self):
        for bad in ["lacking", "#lacking", "(field dead n)", "(field away n)", "(field p f)", "(not x)", "(add x t)",
                    "(pick yes x lacking)", "(list 1 #lacking)"]:
            self.stuck([text.format(bad) for text in [
                "let y {}", "put count {}", "put nodes {}", "set {} n 1", "set p n {}", "set p to {}",
                "new y node n {}, to ps", "new y node n 1, to {}", "call y two {} ps", "call y two 1 {}", "tell {}",
                "unless {} 0", "back {}"]])

    def test_boxes_that_lack(self):
        self.stuck(["put lacking 1", "put main 1", "put node 1", "put x 1"])
        self.stuck(["put count 1"], program=({}, {}, {}))
        with self.assertRaises(Stuck):
            stepped(PROGRAM, ({},) + at_row("put count 1")[1:])

    def test_values_that_are_put(self):
        self.stuck(["put count yes", "put count xs", "put count p", "put flag 1", "put flag 0", "put nodes p",
                    "put nodes xs", "put nodes mixed", "put nodes deads", "put nodes (list away)", "put nodes (list ps)",
                    "put nodes 0"])

    def test_sets(self):
        self.stuck(["set dead n 1", "set away n 1", "set x n 1", "set t n 1", "set xs n 1", "set ps n 1", "set p f 1",
                    "set p a 1", "set q n 1", "set p n yes", "set p n xs", "set p to p", "set p to xs", "set p to 1",
                    "set p to mixed", "set p to deads", "set dead to ps", "set (at deads 0 p) n 1", "set q lacking 1"])

    def test_sets_of_kinds_and_fields_that_lack(self):
        self.stuck(["set p n 1"], records={"r0": ("lost", (("n", 1),))})
        self.stuck(["set p n 1"], records={"r0": ("node", (("to", ()),))})
        self.stuck(["set p m 1"], records={"r0": ("node", (("m", 1),))})
        self.stuck(["set p n 1"], program=({}, PROGRAM[1], PROGRAM[2]))
        self.stuck(["set p n 1"], program=({"node": (("m", NUMBER),)}, PROGRAM[1], PROGRAM[2]))

    def test_news(self):
        self.stuck(["new y lacking", "new y lacking n 1", "new y count", "new y main", "new y node", "new y node n 1",
                    "new y node to ps", "new y node a 1, n 1, to ps", "new y node n 1, to ps, z 1", "new y node m 1, to ps",
                    "new y bare n 1", "new y node n yes, to ps", "new y node n ps, to ps", "new y node n 1, to p",
                    "new y node n 1, to xs", "new y node n 1, to mixed", "new y node n 1, to deads",
                    "new y node n 1, to (list away)", "new y node n 1, to 0"])

    def test_calls(self):
        self.stuck(["call y lacking", "call y count", "call y node", "call y here", "call y main 1", "call y two",
                    "call y two 1", "call y two 1 ps ps", "call y two ps 1", "call y two yes ps", "call y two 1 p",
                    "call y two 1 xs", "call y two 1 mixed", "call y two 1 deads", "call y two 1 (list away)",
                    "call y two p ps", "call y two 1 1"])

    def test_tells(self):
        self.stuck(["tell yes", "tell no", "tell xs", "tell p", "tell (list 1)", "tell #flag", "tell (under 1 2)"])

    def test_unlesses(self):
        self.stuck(["unless 1 0", "unless 0 0", "unless xs 0", "unless p 0", "unless x 0", "unless #count 0",
                    "unless (list yes) 0"])

    def test_backs(self):
        self.stuck(["back yes", "back xs", "back p"])
        self.stuck(["back 1", "back 0", "back (list yes)"], TRUTH)
        self.stuck(["back q", "back dead", "back away", "back 1", "back ps"], ("record", "node"))
        self.stuck(["back mixed", "back xs", "back p", "back deads", "back 0"], ("list", ("record", "node")))
        self.stuck(["back p", "back 1", "back dead"], ("record", "gone"))

    def test_back_to_a_frame_that_stands_at_no_call(self):
        for text in ("let y 1", "tell 1", "new y bare", "mark m", "go 0", "back 1"):
            boxes, records, low, words, end = at_row(text, name="low")
            last = at_row("back 1", name="last", row=5)[2]
            with self.assertRaises(Stuck) as caught:
                stepped(PROGRAM, (boxes, records, low + last, words, end))
            self.assertEqual((caught.exception.name, caught.exception.row), ("last", 5))

    def test_the_last_frames_name_and_row(self):
        boxes, records, low, words, end = at_row("call y main", name="low")
        last = at_row("tell yes", name="last", row=5)[2]
        with self.assertRaises(Stuck) as caught:
            stepped(PROGRAM, (boxes, records, low + last, words, end))
        self.assertEqual((caught.exception.name, caught.exception.row), ("last", 5))

    def test_in_the_midst_of_a_run(self):
        program = read_program("part p () number\n  tell 1\n  let x 2\n  tell x\n  tell yes\n  back 0\n")
        state = begun(program, "p", ())
        self.assertEqual(run_on(program, state, 3)[3], (1, 2))
        for many in (4, 5, 5000):
            with self.assertRaises(Stuck) as caught:
                run_on(program, state, many)
            self.assertEqual((caught.exception.name, caught.exception.row), ("p", 3))
        self.assertTrue(alike(state, begun(program, "p", ())))

    def test_the_error_is_none_of_the_others(self):
        with self.assertRaises(ValueError) as caught:
            stepped(PROGRAM, at_row("tell yes"))
        for other in ("NoText", "NotRight", "NoFit", "NoLead", "NotNow"):
            self.assertNotIsInstance(caught.exception, getattr(errors, other))


class OwnParts(unittest.TestCase):
    """The frame's own part decides which rows it does and what it gives back."""

    def test_where_the_program_has_another_part_of_that_name_or_none(self):
        own = ((), ("list", NUMBER), (("tell", ("number", 1)), ("back", ("list", ("number", 2)))))
        for program in [PROGRAM, ({}, {}, {}), ({}, {}, {"here": ((), TRUTH, (("back", ("truth", True)),))})]:
            state = ({}, {}, (("here", own, 0, {}),), (), None)
            told = run_on(program, state, 2)
            self.assertTrue(alike(told, ({}, {}, (), (1,), ("back", (2,)))))
            wrong = ((), TRUTH, own[2])
            with self.assertRaises(Stuck) as caught:
                stepped(program, ({}, {}, (("here", wrong, 1, {}),), (), None))
            self.assertEqual((caught.exception.name, caught.exception.row), ("here", 1))

    def test_calls_go_by_the_program(self):
        own = ((), NUMBER, (("call", "x", "here", ()), ("back", ("name", "x"))))
        other = ((), NUMBER, (("back", ("number", 9)),))
        state = ({}, {}, (("here", own, 0, {}),), (), None)
        told = stepped(({}, {}, {"here": other}), state)
        self.assertTrue(alike(told[2], (("here", own, 0, {}), ("here", other, 0, {}))))
        self.assertEqual(run_on(({}, {}, {"here": other}), state, 3)[4], ("back", 9))
        with self.assertRaises(Stuck):
            stepped(({}, {}, {}), state)


WHOLE = read_program("""\
kind node n number, to [node]
box all [node] = []
box many number = 3
part main (k number) number
  put many k
  let i 0
  let to (empty node)
  unless (under i #many) 9
  mark loop
  new x node n (times i i), to to
  let to (list x)
  let i (add i 1)
  go 3
  put all to
  call i sum #all
  tell i
  back i
part sum (to [node]) number
  unless (same to (empty node)) 3
  mark done
  back 0
  new x node n 0, to to
  let y (at to 0 x)
  call r sum (field y to)
  set y n (add r (field y n))
  back (field y n)
""")


class Runs(unittest.TestCase):
    def test_a_whole_run(self):
        told = run_on(WHOLE, begun(WHOLE, "main", (4,)), 5000)
        self.assertEqual((told[2], told[3], told[4]), ((), (14,), ("back", 14)))
        self.assertEqual(told[0], {"all": ("r3",), "many": 4})
        self.assertEqual([told[1]["r" + str(k)] for k in range(4)],
                         [("node", (("n", 0), ("to", ()))), ("node", (("n", 1), ("to", ("r0",)))),
                          ("node", (("n", 5), ("to", ("r1",)))), ("node", (("n", 14), ("to", ("r2",))))])
        self.assertEqual(len(told[1]), 8)

    def test_as_many_steps_as_one_by_one(self):
        for program, start, values in [(WHOLE, "main", (2,))] + [(made, "main", ()) for made in made_programs(15)]:
            state = beginning = begun(program, start, values)
            for many in range(0, 60):
                self.assertTrue(alike(run_on(program, beginning, many), state))
                state = stepped(program, state)
            for many in range(0, 60, 7):
                there = run_on(program, beginning, many)
                self.assertTrue(alike(run_on(program, there, 60 - many), state))

    def test_as_many_steps_as_there_are_or_more(self):
        state = begun(WHOLE, "main", (0,))
        steps = 0
        while state[4] is None:
            state = stepped(WHOLE, state)
            steps += 1
        for many in (steps, steps + 1, 5000, 10 ** 12):
            self.assertTrue(alike(run_on(WHOLE, begun(WHOLE, "main", (0,)), many), state))
        self.assertIsNone(run_on(WHOLE, begun(WHOLE, "main", (0,)), steps - 1)[4])

    def test_each_time_a_new_state_with_dicts_of_its_own(self):
        state = run_on(WHOLE, begun(WHOLE, "main", (3,)), 35)
        self.assertGreater(len(state[2]), 1)
        kept = copy.deepcopy(state)
        for told in (stepped(WHOLE, state), run_on(WHOLE, state, 0), run_on(WHOLE, state, 1), run_on(WHOLE, state, 30)):
            again = copy.deepcopy(told)
            for one, other in itertools.product(dicts_of(told), dicts_of(state)):
                self.assertIsNot(one, other)
            mine = dicts_of(told)
            self.assertEqual(len({id(one) for one in mine}), len(mine))
            for one in dicts_of(state):
                one["spoilt"] = 1
            self.assertTrue(alike(told, again))
            for one in dicts_of(state):
                del one["spoilt"]
            self.assertTrue(alike(state, kept))
            for one in mine:
                one.clear()
            self.assertTrue(alike(state, kept))

    def test_what_is_handed_in_stays(self):
        program = copy.deepcopy(WHOLE)
        values = (3,)
        state = begun(program, "main", values)
        for _ in range(70):
            kept = copy.deepcopy(state)
            told = stepped(program, state)
            self.assertTrue(alike(state, kept))
            self.assertTrue(alike(stepped(program, state), told))
            state = told
        self.assertTrue(alike(program, WHOLE))
        self.assertEqual(values, (3,))

    def test_five_thousand_steps_and_two_thousand_records(self):
        program = read_program("kind n k number\nbox last number = 0\npart p () number\n  new x n k #last\n"
                               "  put last (add (field x k) 1)\n  unless (under #last 1600) 4\n  go 0\n  go 4\n")
        told = run_on(program, begun(program, "p", ()), 6500)
        self.assertEqual((len(told[1]), told[1]["r1599"], told[0]), (1600, ("n", (("k", 1599),)), {"last": 1600}))

    def test_in_right_programs_no_run_is_stuck(self):
        seen = set()
        for program in made_programs(150):
            papers_of(program)
            state = begun(program, "main", ())
            for _ in range(250):
                if state[4] is None:
                    seen.add(state[2][-1][1][2][state[2][-1][2]][0])
                state = stepped(program, state)
            for value in [*state[0].values(), *state[2][-1][3].values()] if state[2] else []:
                self.assertTrue(is_value(value))
            self.assertTrue(all(is_plain(word) and not isinstance(word, bool) for word in state[3]))
        self.assertEqual(seen, {"let", "put", "set", "new", "call", "tell", "mark", "go", "unless", "back"})


def papers_for(program, state):
    papers = papers_of(program)
    return tuple(papers[frame[0]] for frame in state[2])


OWN = object()


class Fits(unittest.TestCase):
    def setUp(self):
        # Three frames: main at its call of sum, sum at its own, sum again.
        state = begun(WHOLE, "main", (3,))
        while len(state[2]) < 3:
            state = stepped(WHOLE, state)
        self.state = state
        self.papers = papers_for(WHOLE, state)

    def told(self, wanted, state=None, papers=OWN, program=WHOLE):
        self.assertIs(fits(program, state or self.state, self.papers if papers is OWN else papers), wanted)

    def with_frame(self, k, **new):
        name, part, row, held = self.state[2][k]
        frame = (name, new.get("part", part), new.get("row", row), new.get("held", held))
        return self.state[:2] + (self.state[2][:k] + (frame,) + self.state[2][k + 1:],) + self.state[3:]

    def test_states_of_runs_fit_at_every_step(self):
        runs = [(WHOLE, "main", (k,)) for k in range(4)] + [(made, "main", ()) for made in made_programs(60)]
        for program, start, values in runs:
            papers = papers_of(program)
            state = begun(program, start, values)
            for _ in range(70):
                self.assertIs(fits(program, state, tuple(papers[frame[0]] for frame in state[2])), True)
                state = stepped(program, state)

    def test_boxes(self):
        boxes = self.state[0]
        self.told(True)
        for other, wanted in [({**boxes, "more": 1}, False), ({"all": boxes["all"]}, False), ({}, False),
                              ({"all": boxes["all"], "man": 3}, False), ({**boxes, "many": True}, False),
                              ({**boxes, "many": 9}, True), ({**boxes, "many": "r0"}, False),
                              ({**boxes, "all": ()}, True), ({**boxes, "all": ("r1", "r0")}, True),
                              ({**boxes, "all": ("r99",)}, False), ({**boxes, "all": (1,)}, False),
                              ({**boxes, "all": "r0"}, False), ({**boxes, "all": (("r0",),)}, False)]:
            self.told(wanted, (other,) + self.state[1:])
            self.told(wanted, (other, self.state[1], (), (), ("back", 0)), ())

    def test_boxes_in_whichever_order(self):
        turned = {box: self.state[0][box] for box in reversed(list(self.state[0]))}
        self.told(True, (turned,) + self.state[1:])
        boxes = {box: WHOLE[1][box] for box in reversed(list(WHOLE[1]))}
        self.told(True, program=(WHOLE[0], boxes, WHOLE[2]))

    def with_records(self, wanted, **new):
        state = (self.state[0], {**self.state[1], **new}) + self.state[2:]
        self.told(wanted, state)
        self.told(wanted, state[:2] + ((), (), ("back", 0)), ())

    def test_records(self):
        many = len(self.state[1])
        self.assertEqual(many, 4)
        self.with_records(True, r4=("node", (("n", 1), ("to", ("r4", "r0")))))
        self.with_records(False, r5=("node", (("n", 1), ("to", ()))))
        self.with_records(False, r04=("node", (("n", 1), ("to", ()))))
        self.with_records(False, r4=("gone", ()))
        self.with_records(False, r4=("gone", (("n", 1), ("to", ()))))
        self.with_records(False, r4=("all", ()))
        self.with_records(False, r4=("node", ()))
        self.with_records(False, r4=("node", (("n", 1),)))
        self.with_records(False, r4=("node", (("to", ()),)))
        self.with_records(False, r4=("node", (("m", 1), ("to", ()))))
        self.with_records(False, r4=("node", (("n", 1), ("to", ()), ("z", 1))))
        self.with_records(False, r4=("node", (("a", 1), ("n", 1), ("to", ()))))
        self.with_records(False, r4=("node", (("n", True), ("to", ()))))
        self.with_records(False, r4=("node", (("n", 1), ("to", 1))))
        self.with_records(False, r4=("node", (("n", 1), ("to", (1,)))))
        self.with_records(False, r4=("node", (("n", 1), ("to", ("r5",)))))
        self.with_records(False, r4=("node", (("n", "r0"), ("to", ()))))

    def test_refs_without_gaps(self):
        records = self.state[1]
        for ref in records:
            less = {one: record for one, record in records.items() if one != ref}
            state = ({"all": (), "many": 0}, less, (), (), ("deep",))
            plain = {one: ("node", (("n", 0), ("to", ()))) for one in less}
            self.told(ref == "r3", (state[0], plain) + state[2:], ())
        self.told(True, ({"all": (), "many": 0}, {}, (), (), ("deep",)), ())
        self.told(False, ({"all": (), "many": 0}, {"r1": ("", ())}, (), (), ("deep",)), ())
        turned = {ref: records[ref] for ref in reversed(list(records))}
        self.told(True, (self.state[0], turned) + self.state[2:])

    def test_dead_records_fit(self):
        self.with_records(True, r4=("", ()))
        self.with_records(True, r4=("", ()), r5=("", ()), r6=("node", (("n", 0), ("to", ("r0",)))))
        self.with_records(False, r4=("", ()), r5=("node", (("n", 0), ("to", ("r4",)))))
        self.with_records(False, r5=("", ()))
        self.with_records(False, r4=("", (("n", 1),)))

    def test_papers_too_few_and_too_many(self):
        for papers in [(), self.papers[:2], self.papers[1:], self.papers + self.papers[:1], self.papers * 2,
                       self.papers + (None,)]:
            self.told(False, papers=papers)

    def test_papers_of_another_part_or_not_read(self):
        for k in range(3):
            other = papers_of(WHOLE)["sum" if k == 0 else "main"]
            things = [other, (), (None,) * len(self.papers[k]), self.papers[k][:-1], self.papers[k] + (None,),
                      list(self.papers[k]), None, (((("x", NUMBER)),),) + self.papers[k][1:],
                      ((("gone", ("record", "gone")),),) + self.papers[k][1:]]
            for thing in things + odd_things():
                self.told(False, papers=self.papers[:k] + (thing,) + self.papers[k + 1:])
            for r in range(len(self.papers[k])):
                for thing in [("x",), [], ((1, 2),)] + odd_things():
                    if thing is not None:
                        paper = self.papers[k][:r] + (thing,) + self.papers[k][r + 1:]
                        self.told(False, papers=self.papers[:k] + (paper,) + self.papers[k + 1:])

    def test_papers_that_are_no_tuple(self):
        for thing in odd_things() + [list(self.papers), None, "", 0, {}]:
            self.told(False, papers=thing)

    def test_the_last_frames_row(self):
        # The last frame stands at sum's row 0; of its paper what lies behind a back is not needed.
        part = WHOLE[2]["sum"]
        for row in range(len(part[2])):
            held = {"to": ("r0",), "x": "r1", "y": "r0", "r": 4}
            self.told(True, self.with_frame(2, row=row, held=held))
        self.told(False, papers=self.papers[:2] + ((None,) + self.papers[2][1:],))
        late = (None,) * 6 + self.papers[2][6:]
        for row in range(len(part[2])):
            held = {"to": ("r0",), "x": "r1", "y": "r0", "r": 4}
            self.told(row >= 6, self.with_frame(2, row=row, held=held), self.papers[:2] + (late,))

    def test_at_a_mark_the_row_behind(self):
        at_mark = self.with_frame(2, row=1, held={"to": ()})
        paper = self.papers[2]
        for less, wanted in [(paper, True), ((None,) + paper[1:], True), ((None, None) + paper[2:], True),
                             ((None, (), ()) + paper[3:], True)]:
            self.told(wanted, at_mark, self.papers[:2] + (less,))
        none_behind = (None,) * 3 + paper[3:]
        self.told(False, at_mark, self.papers[:2] + (none_behind,))
        told_behind = (None, None, (("z", NUMBER),)) + paper[3:]
        self.told(False, at_mark, self.papers[:2] + (told_behind,))
        self.told(True, self.with_frame(2, row=1, held={"to": (), "z": 3}), self.papers[:2] + (told_behind,))
        self.told(False, self.with_frame(2, row=1, held={"to": (), "z": True}), self.papers[:2] + (told_behind,))

    def test_what_the_last_frames_paper_tells_is_held(self):
        self.told(False, self.with_frame(2, held={}))
        self.told(False, self.with_frame(2, held={"to": 1}))
        self.told(False, self.with_frame(2, held={"to": ("r99",)}))
        self.told(False, self.with_frame(2, held={"ot": ()}))
        self.told(True, self.with_frame(2, held={"to": (), "more": True, "even": "r99"}))

    def test_what_the_other_frames_papers_tell_is_held(self):
        name, part, row, held = self.state[2][0]
        self.assertEqual(part[2][row][0], "call")
        told = dict(self.papers[0][row + 1])
        self.assertEqual(sorted(told), ["i", "k", "to"])
        for other in told:
            less = {one: value for one, value in held.items() if one != other}
            self.told(other == "i", self.with_frame(0, held=less))
            self.told(other == "i", self.with_frame(0, held={**held, other: True}))
            self.told(other == "i", self.with_frame(0, held={**held, other: ("r99",)}))
        self.told(True, self.with_frame(0, held={**held, "more": 1}))

    def test_a_calls_row_behind(self):
        for k in (0, 1):
            row = self.state[2][k][2]
            alone = (None,) * (row + 1) + self.papers[k][row + 1:]
            self.told(True, papers=self.papers[:k] + (alone,) + self.papers[k + 1:])
            none = (None,) * (row + 2) + self.papers[k][row + 2:]
            self.told(False, papers=self.papers[:k] + (none,) + self.papers[k + 1:])

    def test_a_frame_that_waits_at_no_call(self):
        for k in (0, 1):
            rows = self.state[2][k][1][2]
            held = {"to": ("r0",), "x": "r1", "y": "r0", "r": 4, "i": 1, "k": 3}
            for row in range(len(rows)):
                self.told(rows[row][0] == "call", self.with_frame(k, row=row, held=held))

    def test_what_the_next_frames_part_gives(self):
        takes, _, rows = self.state[2][1][1]
        for gives, wanted in [(NUMBER, True), (TRUTH, False), (("list", NUMBER), False)]:
            loose = (takes, gives, (("let", "w", ("number", 0)), *rows[1:5], rows[5], ("go", 6)))
            frame = ("sum", loose, 5, {**self.state[2][1][3], "y": "r0", "x": "r1"})
            state = self.state[:2] + ((self.state[2][0], frame, self.state[2][2]),) + self.state[3:]
            paper = (None,) * 6 + ((),)
            self.told(wanted, state, (self.papers[0], paper, self.papers[2]))

    def test_x_that_is_not_told_may_be_of_any_kind(self):
        caller = ((), NUMBER, (("call", "x", "q", ()), ("back", ("number", 0))))
        for gives in (NUMBER, TRUTH, ("list", NUMBER)):
            called = ((), gives, (("go", 0),))
            program = ({}, {}, {"p": caller, "q": ((), NUMBER, (("go", 0),))})
            state = ({}, {}, (("p", caller, 0, {}), ("q", called, 0, {})), (), None)
            self.assertIs(fits(program, state, ((None, ()), ((),))), True)
            self.assertIs(fits(program, state, (((), ()), ((),))), True)
            told = (None, (("x", NUMBER),))
            self.assertIs(fits(program, state, (told, ((),))), gives == NUMBER)

    def test_an_ended_state_fits_by_any_papers(self):
        for end in [("back", 3), ("deep",)]:
            for frames in [(), self.state[2]]:
                state = self.state[:2] + (frames, (), end)
                for papers in [(), self.papers, (None,), (1, 2, 3, 4)] + [(thing,) for thing in odd_things()]:
                    self.told(True, state, papers)
                    self.told(False, ({},) + state[1:], papers)

    def test_it_is_by_the_program_handed_in(self):
        for program in [({}, {}, {}), (WHOLE[0], {}, WHOLE[2]), ({}, WHOLE[1], WHOLE[2])]:
            self.told(False, program=program)
        kinds, boxes, parts = WHOLE
        self.told(True, program=(kinds, boxes, {"sum": parts["sum"]}))
        self.told(False, program=(kinds, boxes, {"main": parts["main"]}))
        self.told(False, program=({"node": (("n", NUMBER),)}, boxes, parts))

    def test_old_parts_may_be_in_a_frame(self):
        program = read_program("part p () number\n  back 0\n")
        old = ((), TRUTH, (("let", "x", ("number", 1)), ("mark", "m"), ("back", ("truth", True))))
        state = ({}, {}, (("gone", old, 1, {"x": 1}),), (), None)
        self.assertIs(fits(program, state, (grown(program, old, 0, ()),)), True)
        self.assertIs(fits(program, state, (grown(program, program[2]["p"], 0, ()),)), False)

    def test_asked_again_all_is_told_alike_and_nothing_changes(self):
        state, papers, program = copy.deepcopy((self.state, self.papers, WHOLE))
        for _ in range(2):
            self.assertIs(fits(program, state, papers), True)
            self.assertIs(fits(program, state, papers[:2]), False)
        self.assertTrue(alike((state, papers, program), (self.state, self.papers, WHOLE)))


if __name__ == "__main__":
    unittest.main()
