"""The whole document, point by point, over the whole program: one test for each promise, with the edges of its sizes."""

import copy
import unittest

from changewhile import backs, changes, changetexts, errors, forms, kinding, kinds, leading, lives, looking, pairfinding
from changewhile import pairings, papers, places, programs, programtexts, reckoning, rows, states, terms, values
from tests.examples import NUMBER, TRUTH, alike, deep, odd_things
from tests.test_places import is_chain

LETTERS = "abcdefghijklmnopqrst"
TEXT = """\
kind leaf v number
kind tree kids [tree], own leaf, size number
box grown [tree] = []
box many number = 3
box open truth = yes
part main (n number) number
  let i 0
  let s 0
  new l leaf v n
  new t tree kids #grown, own l, size 1
  unless (under i #many) 11
  mark round
  put grown (list t)
  call s weigh t i
  tell s
  let i (add i 1)
  go 4
  set t size (add (field t size) s)
  mark done
  back (field t size)
part weigh (t tree, by number) number
  let w (times by (field (field t own) v))
  mark low
  unless (same by 0) 4
  call k weigh t 1
  back (add w (field t size))
"""
PROGRAM = programtexts.read_program(TEXT)
# Behind it a leaf has one field more, a box is twice as much, a part is called otherwise within.
CHANGE = changetexts.read_change("""\
kind leaf log number, v number
box many number = 0
part main (m number) number
  let j 0
  let s 0
  new l leaf log 9, v m
  new t tree kids #grown, own l, size 1
  unless (under (times j 2) #many) 13
  let spare #many
  mark round
  put grown (list t)
  call s weigh t j
  tell s
  let j (add 1 j)
  set (field t own) log j
  go 4
  set t size (add s (field t size))
  mark done
  back (field t size)
lead leaf log 4
lead many (times it 2)
""")
# The same, but for the box and the field, has a pairing.
PAIRED = changetexts.read_change(changetexts.change_text(CHANGE).replace("box many number = 0\n", "").replace(
    "(times j 2)", "j").replace("lead many (times it 2)\n", ""))
NOTHING = changetexts.read_change("")


def big_program():
    """A program of twenty kinds, boxes and parts, of eight fields and takes, and sixty rows."""
    kinds_, boxes, parts = {}, {}, {}
    for k, letter in enumerate(LETTERS):
        kinds_["k" + letter] = tuple((one, ("record", "k" + LETTERS[(k + r) % 20])) for r, one in enumerate("abcdefg")) + (
            ("h", deep(8, NUMBER, lambda kind: ("list", kind))),)
        boxes["b" + letter] = (("list", ("list", NUMBER)), ((1, 2), ()) * k)
        takes = tuple((one, NUMBER) for one in "abcdefg") + (("list", ("list", ("list", NUMBER))),)
        body = [("let", "x", ("add", ("name", "a"), ("number", r))) for r in range(55)]
        body += [("put", "b" + letter, ("name", "list")), ("mark", "m" + letter),
                 ("call", "y", "p" + LETTERS[(k + 1) % 20], tuple(("name", one) for one, _ in takes)), ("tell", ("name", "y"))]
        parts["p" + letter] = (takes, NUMBER, tuple(body) + (("back", ("name", "x")),))
    return (kinds_, boxes, parts)


BIG = big_program()
EIGHT = (1, 2, 3, 4, 5, 6, 7, ((8,), ()))


def met(mark, program=PROGRAM, start="main", given=(5,)):
    live = lives.Live(program, start, given)
    while live.mark() != mark:
        live.step()
    return live


class Points(unittest.TestCase):
    def test_01_a_program_is_changed_while_it_runs(self):
        live = met("low")
        for way in ("once", "touch"):
            live.enter(NOTHING, way)
        live.wait(changetexts.read_change("box many number = 9\nlead many (add it 1)\n"))
        while live.state()[4] is None:
            live.step()
        self.assertEqual((live.state()[0]["many"], len(live.state()[3])), (4, 4))

    def test_02_sizes_and_things_handed_in(self):
        kept = copy.deepcopy(BIG)
        self.assertTrue(programs.is_program(BIG))
        papers.papers_of(BIG)
        live = lives.Live(BIG, "pa", EIGHT)
        for _ in range(900):
            live.step()
        self.assertEqual(len(live.state()[2]), 16)
        self.assertEqual(sorted(looking.look(BIG, "pa", NOTHING)), ["m" + one for one in LETTERS])
        found = pairfinding.find_pairing(BIG, NOTHING)
        self.assertEqual(sorted(found[1]), ["p" + one for one in LETTERS])
        self.assertTrue(alike(BIG, kept))
        self.assertTrue(alike(programtexts.read_program(programtexts.program_text(BIG)), BIG))
        for word, is_one in (("abcdefgh", True), ("abcdefghi", False), ("number", False), ("yes", False), ("a", True), ("", False)):
            self.assertIs(kinds.is_name(word), is_one)

    def test_03_the_promise(self):
        whole = states.run_on(PROGRAM, states.begun(PROGRAM, "main", (5,)), 500)
        behind = changes.changed(PROGRAM, CHANGE)
        told = looking.look(PROGRAM, "main", CHANGE)
        self.assertEqual({mark: told[mark][0] for mark in told}, {"round": "in", "low": "in", "done": "in"})
        ends = []
        for mark in ("round", "low", "done"):
            for way in ("once", "touch"):
                live = met(mark)
                live.enter(CHANGE, way)
                while live.state()[4] is None:
                    live.step()
                ends.append((mark, live.state()))
        for k in (0, 2, 4):
            self.assertTrue(alike(ends[k], ends[k + 1]))
        self.assertEqual(ends[4][1][4], whole[4])
        self.assertTrue(states.fits(behind, ends[0][1], ()))

    def test_04_kinds(self):
        kind = deep(8, ("record", "tree"), lambda one: ("list", one))
        self.assertEqual(kinds.kind_text(kind), "[" * 8 + "tree" + "]" * 8)
        self.assertEqual((kinds.read_kind("[[truth]]"), kinds.names_in(kind)), (("list", ("list", TRUTH)), ["tree"]))
        self.assertFalse(kinds.is_kind(("list", "number")))

    def test_05_values(self):
        many = tuple(tuple(range(60)) for _ in range(33))
        for thing, is_one in ((10 ** 12 - 1, True), (10 ** 12, False), (many, True), ((0,) * 61, False), ("r" + "9" * 60, True),
                              ("r01", False), (-1, False), (deep(8, (), lambda one: (one,)), True)):
            self.assertIs(values.is_value(thing), is_one)
        self.assertFalse(values.alike_values((1, 0), (1, False)))
        self.assertTrue(values.is_of(("list", ("record", "a")), ("r0",), {"r0": ("a", ())}))
        self.assertEqual(values.read_value(values.value_text(many)), many)

    def test_06_terms(self):
        term = deep(11, ("name", "x"), lambda one: ("add", one, ("box", "b")))
        self.assertTrue(terms.is_term(term))
        self.assertEqual(terms.read_term(terms.term_text(term)), term)
        wide = ("list", *[deep(4, ("name", "x"), lambda one: ("less", one, ("number", 1)))] * 8)
        self.assertTrue(terms.is_term(wide))
        self.assertFalse(terms.is_term(("list", *[("number", 1)] * 9)))
        self.assertEqual(terms.with_names(("add", ("name", "x"), ("name", "y")), {"x": ("name", "y"), "y": ("name", "x")}),
                         ("add", ("name", "y"), ("name", "x")))

    def test_07_texts_are_read_sign_by_sign(self):
        for text in ("(add x  y)", " x", "(add x y", "x y", "01", "(" * 5000 + "x" + ")" * 5000, "(field x)", "Yes"):
            with self.assertRaises(errors.NoText):
                terms.read_term(text)
        for read in (kinds.read_kind, values.read_value, terms.read_term, rows.read_row, programtexts.read_program,
                     changetexts.read_change):
            for thing in odd_things() + ["[" * 9999, "(" * 9999, "\u00e9", "go 0 "]:
                with self.assertRaises(errors.NoText):
                    read(thing)

    def test_08_rows(self):
        for text in ("let x (add x 1)", "set x f 3", "new x pair a 1, b yes", "call x sum xs 0", "call x run", "go 4",
                     "unless (under i 9) 12", "go " + "9" * 120, "new x pair", "tell #b", "back x", "put b x", "mark m"):
            self.assertEqual(rows.row_text(rows.read_row(text)), text)
        self.assertFalse(rows.is_row(("new", "x", "pair", (("b", ("name", "x")), ("a", ("name", "x"))))))

    def test_09_parts_and_programs(self):
        self.assertTrue(programs.is_part(BIG[2]["pa"]))
        self.assertFalse(programs.is_part(((), NUMBER, (("tell", ("number", 1)),))))
        self.assertFalse(programs.is_program(({"a": ()}, {"a": (NUMBER, 1)}, {})))
        self.assertEqual(programs.marks_of(PROGRAM), {"round": ("main", 5), "done": ("main", 12), "low": ("weigh", 1)})

    def test_10_texts_of_programs(self):
        self.assertEqual(programtexts.program_text(PROGRAM), TEXT)
        for text in (TEXT[:-1], TEXT + "\n", TEXT.replace("  go", " go"), TEXT.replace("kind leaf", "kind zz")):
            with self.assertRaises(errors.NoText):
                programtexts.read_program(text)

    def test_11_kinds_of_terms(self):
        holding = (("ps", ("list", ("record", "tree"))), ("t", ("record", "tree")), ("x", NUMBER))
        for text, kind in (("(field (field t own) v)", NUMBER), ("(at ps x t)", ("record", "tree")), ("(at ps t t)", None),
                           ("(empty lost)", None), ("(same t (field t own))", None), ("#grown", ("list", ("record", "tree")))):
            self.assertEqual(kinding.kind_of(terms.read_term(text), holding, PROGRAM), kind)

    def test_12_right_rows_and_what_they_leave(self):
        holding = (("t", ("record", "tree")), ("x", NUMBER))
        for text, is_right in (("set t size x", True), ("set t size t", False), ("put open x", False), ("call x weigh t x", True),
                               ("call x weigh t", False), ("new x leaf v 1", True), ("new x leaf", False), ("tell t", False)):
            self.assertIs(kinding.is_right(rows.read_row(text), holding, PROGRAM, PROGRAM[2]["main"]), is_right)
        self.assertEqual(kinding.leaves(rows.read_row("let x t"), holding, PROGRAM), (holding[0], ("x", holding[0][1])))
        self.assertEqual(rows.next_rows(PROGRAM[2]["main"][2], 4), [5, 11])

    def test_13_papers(self):
        part = PROGRAM[2]["weigh"]
        paper = papers.grown(PROGRAM, part, 2, tuple(sorted(part[0])) + (("w", NUMBER),))
        self.assertEqual(paper[:2], (None, None))
        self.assertEqual(papers.wrong_rows(PROGRAM, part, paper), [])
        self.assertTrue(papers.reads(PROGRAM, part, paper))
        self.assertFalse(papers.reads(PROGRAM, part, paper[1:]))

    def test_14_right_programs(self):
        self.assertEqual(sorted(papers.papers_of(PROGRAM)), ["main", "weigh"])
        wrong = copy.deepcopy(PROGRAM)
        wrong[1]["many"] = (NUMBER, True)
        with self.assertRaises(errors.NotRight) as caught:
            papers.papers_of(wrong)
        self.assertEqual((caught.exception.name, caught.exception.row), ("many", -1))

    def test_15_worths(self):
        for text, wanted in (("(less 0 1)", 10 ** 12 - 1), ("(at xs 9 7)", 7), ("(pick (same 1 yes) 2 3)", 3),
                             ("(many (join xs xs))", 60), ("(times 999999999999 999999999999)", 1)):
            self.assertEqual(reckoning.worth(terms.read_term(text), {"xs": (1,) * 40 if "join" in text else (1,)}, {}, {}), wanted)
        with self.assertRaises(errors.Stuck):
            reckoning.worth(terms.read_term("(pick yes 1 lost)"), {}, {}, {})

    def test_16_states(self):
        state = states.begun(PROGRAM, "main", (5,))
        self.assertTrue(alike(state, ({"grown": (), "many": 3, "open": True}, {}, (("main", PROGRAM[2]["main"], 0, {"n": 5}),),
                                      (), None)))
        with self.assertRaises(errors.Stuck) as caught:
            states.begun(PROGRAM, "main", (True,))
        self.assertEqual((caught.exception.name, caught.exception.row), ("main", -1))

    def test_17_steps(self):
        told = states.run_on(PROGRAM, states.begun(PROGRAM, "main", (5,)), 5000)
        self.assertEqual(told[2:], ((), (1, 6, 11), ("back", 12)))
        endless = programtexts.read_program("part main () number\n  call x main\n  back x\n")
        self.assertEqual(states.run_on(endless, states.begun(endless, "main", ()), 5000)[4], ("deep",))

    def test_18_states_that_fit(self):
        state = states.run_on(PROGRAM, states.begun(PROGRAM, "main", (5,)), 9)
        told = papers.papers_of(PROGRAM)
        mine = tuple(told[frame[0]] for frame in state[2])
        self.assertTrue(states.fits(PROGRAM, state, mine))
        self.assertFalse(states.fits(PROGRAM, state, mine[1:]))
        self.assertFalse(states.fits(PROGRAM, ({**state[0], "many": True}, *state[1:]), mine))

    def test_19_places_and_chains(self):
        at_low = (("main", 7), ("weigh", 1), ("weigh", 3))
        self.assertEqual(places.places_at(PROGRAM, "main", "low"), at_low)
        for place in at_low:
            self.assertTrue(is_chain(PROGRAM, "main", "low", place, places.chain_to(PROGRAM, "main", "low", place)))
        self.assertEqual(places.places_at(PROGRAM, "weigh", "round"), ())

    def test_20_changes(self):
        self.assertTrue(changes.is_change(CHANGE))
        self.assertEqual(changes.changed(PROGRAM, CHANGE)[1]["many"], (NUMBER, 0))
        for text, error, told in (("out lost\n", errors.NoFit, ("lost",)), ("box many truth = no\n", errors.NoLead, ("many", "")),
                                  ("kind leaf v truth\n", errors.NoLead, ("leaf", "v")),
                                  ("out many\nout open\n", errors.NotRight, ("main", 4))):
            with self.assertRaises(error) as caught:
                changes.changed(PROGRAM, changetexts.read_change(text))
            self.assertEqual(tuple(vars(caught.exception).values()), told)

    def test_21_texts_of_changes(self):
        text = changetexts.change_text(CHANGE)
        self.assertTrue(text.endswith("lead leaf log 4\nlead many (times it 2)\n"))
        self.assertTrue(alike(changetexts.read_change(text), CHANGE))
        with self.assertRaises(errors.NoText):
            changetexts.read_change("out b\nout a\n")

    def test_22_rests(self):
        told = looking.look(PROGRAM, "main", changetexts.read_change(
            "part main (n number) number\n  back 0\npart weigh (t tree) truth\n  back yes\n"))
        # What was called ahead gives its number; one called behind would be handed too much.
        self.assertEqual(told["low"][:3], ("not", ("main", 7), 7))
        self.assertEqual(told["done"][0], "in")

    def test_23_the_looker(self):
        told = looking.look(PROGRAM, "main", CHANGE)
        self.assertEqual(sorted(told["low"][1]), [("main", 7), ("weigh", 1), ("weigh", 3)])
        told = looking.look(PROGRAM, "main", changetexts.read_change(
            "out many\nout open\npart main (n number) number\n  back 0\n"))
        self.assertEqual(told["round"], ("not", ("main", 5), 4, (("main", 5),)))
        self.assertEqual(told["done"][0], "in")

    def test_24_the_small_reader(self):
        told = looking.look(PROGRAM, "main", CHANGE)
        for mark in told:
            self.assertTrue(looking.reads_entry(PROGRAM, "main", CHANGE, mark, told[mark][1]))
            self.assertFalse(looking.reads_entry(PROGRAM, "main", CHANGE, mark, {}))

    def test_25_states_led_over(self):
        state = met("done").state()
        told = leading.led(PROGRAM, CHANGE, state)
        self.assertEqual((told[0]["many"], told[1]["r0"]), (6, ("leaf", (("log", 4), ("v", 5)))))
        self.assertTrue(alike(told[2:], state[2:]))

    def test_26_live_runs(self):
        live = met("low")
        self.assertEqual(len(live.look(CHANGE)), 2)
        live.step()
        with self.assertRaises(errors.NotNow) as caught:
            live.look(CHANGE)
        self.assertEqual((caught.exception.frame, caught.exception.row), (-1, -1))

    def test_27_once_and_by_touching(self):
        live = met("low")
        live.enter(CHANGE, way="touch")
        self.assertEqual((live.asleep(), live.old()), (["many", "r0"], [0]))
        self.assertEqual(live.state()[0]["many"], 6)
        while live.mark() != "done":
            live.step()
        self.assertEqual(live.asleep(), [])
        live = met("low")
        live.enter(CHANGE)
        self.assertEqual(live.asleep(), [])

    def test_28_changes_that_wait(self):
        live = lives.Live(PROGRAM, "main", (5,))
        for text in ("out lost\n", "box more number = 1\n"):
            live.wait(changetexts.read_change(text))
        self.assertEqual((live.waiting(), live.dropped()), (2, 0))
        while live.mark() is None:
            live.step()
        live.step()
        self.assertEqual((live.waiting(), live.dropped(), live.state()[0]["more"]), (0, 1, 1))

    def test_29_back_and_apart(self):
        back = backs.back_of(PROGRAM, CHANGE, {}, {"many": terms.read_term("(at (list 3) 0 it)")})
        self.assertTrue(alike(changes.changed(changes.changed(PROGRAM, CHANGE), back), PROGRAM))
        state = met("low").state()
        self.assertTrue(backs.undoes(PROGRAM, CHANGE, back, state))
        self.assertFalse(backs.undoes(PROGRAM, CHANGE, back, ({**state[0], "many": 2}, *state[1:])))
        self.assertFalse(backs.apart(CHANGE, back))
        self.assertTrue(backs.apart(CHANGE, changetexts.read_change("out open\n")))

    def test_30_alike_terms(self):
        for one, other, wanted in (("(times (add x 1) (less x 1))", "(less (times x x) 1)", True), ("(same x y)", "(same y x)", True),
                                   ("(many (list x y))", "2", True), ("(less x y)", "(less y x)", False)):
            self.assertIs(forms.alike(terms.read_term(one), terms.read_term(other)), wanted)

    def test_31_pairings(self):
        free, parts = pairfinding.find_pairing(PROGRAM, PAIRED)
        self.assertEqual(free, (("leaf", "log"),))
        self.assertEqual(parts["weigh"][0], (("by", ("name", "by")), ("t", ("name", "t"))))
        self.assertEqual(parts["main"][1][0][:2], (0, 0))
        for odd in ((("lost",), parts), (free, {**parts, "lost": parts["main"]}), (free, {**parts, "main": ((), (0, 0, 0))})):
            self.assertFalse(pairings.reads_pairing(PROGRAM, PAIRED, odd))

    def test_32_pairings_that_are_read(self):
        told = pairfinding.find_pairing(PROGRAM, PAIRED)
        free, parts = told
        self.assertTrue(pairings.reads_pairing(PROGRAM, PAIRED, told))
        self.assertFalse(pairings.reads_pairing(PROGRAM, PAIRED, ((), parts)))
        self.assertFalse(pairings.reads_pairing(PROGRAM, PAIRED, (free, {**parts, "weigh": ((), parts["weigh"][1])})))
        self.assertFalse(pairings.reads_pairing(PROGRAM, CHANGE, told))

    def test_33_runs_by_pairings(self):
        told = pairfinding.find_pairing(PROGRAM, PAIRED)
        self.assertEqual(sorted(told[1]), ["main", "weigh"])
        whole = states.run_on(PROGRAM, states.begun(PROGRAM, "main", (5,)), 500)
        for mark in ("round", "low", "done"):
            for way in ("once", "touch"):
                live = met(mark)
                rests, frames = live.look(PAIRED), live.state()[2]
                for frame, own, rest in zip(frames, live.own, rests):
                    self.assertTrue(pairings.stays_paired(PROGRAM, PAIRED, told, frame[1], own, rest))
                live.enter(PAIRED, way)
                while live.state()[4] is None:
                    live.step()
                self.assertTrue(alike(live.state()[3:], whole[3:]))


class Errors(unittest.TestCase):
    def test_each_is_under_change_error_alone(self):
        names = ("NoText", "NotRight", "Stuck", "NoFit", "NoLead", "NotNow")
        for name in names:
            one = getattr(errors, name)
            self.assertTrue(issubclass(one, errors.ChangeError) and issubclass(one, ValueError))
            for other in names:
                self.assertEqual(issubclass(one, getattr(errors, other)), name == other)


if __name__ == "__main__":
    unittest.main()
