"""Changes and the programs behind them, points 2, 14 and 20."""

import copy
import itertools
import unittest

from changewhile import errors
from changewhile.changes import changed, is_change
from changewhile.changetexts import read_change
from changewhile.errors import ChangeError, NoFit, NoLead, NotRight
from changewhile.papers import papers_of
from changewhile.programs import is_program
from changewhile.programtexts import program_text, read_program
from tests.examples import (BAD_NAMES, BAD_PROGRAMS, BAD_TERMS, GOOD_NAMES, NUMBER, PROGRAMS, TERMS, TRUTH, X, alike,
                            deep, name, number, odd_things)
from tests.making import made_programs

NOTHING = ((), {}, {}, {}, {}, {})
IT = name("it")


def with_boxes_or_fields(term):
    if term[0] in ("box", "field"):
        return True
    return any(with_boxes_or_fields(part) for part in term[1:] if isinstance(part, tuple) and term[0] != "empty")


class Changes(unittest.TestCase):
    def told(self, thing, wanted):
        self.assertIs(is_change(thing), wanted, repr(thing)[:200])

    def test_the_change_that_changes_nothing(self):
        self.told(NOTHING, True)

    def test_outs(self):
        for outs in [("a",), ("a", "b"), ("a", "aa", "b", "z"), tuple(sorted(GOOD_NAMES)), ("n", "na")]:
            self.told((outs, {}, {}, {}, {}, {}), True)
        for outs in [("b", "a"), ("a", "a"), ("a", "b", "b"), ("a", "c", "b"), ("aa", "a"), ["a"], [], {}, {"a": 1}, "a",
                     "", "ab", None, 0, (1,), (None,), ("a", 1), (("a",),), (X,), ("a", ["b"]), {"a"}, set()]:
            self.told((outs, {}, {}, {}, {}, {}), False)
        for word in BAD_NAMES:
            self.told(((word,), {}, {}, {}, {}, {}), False)
        for thing in odd_things():
            self.told((thing, {}, {}, {}, {}, {}), False)
            self.told(((thing,), {}, {}, {}, {}, {}), False)
            self.told((("a", thing), {}, {}, {}, {}, {}), False)

    def test_kinds_boxes_and_parts(self):
        for program, _ in PROGRAMS:
            self.told(((), *program, {}, {}), True)
        for program in BAD_PROGRAMS:
            if isinstance(program, tuple) and len(program) == 3:
                self.told(((), *program, {}, {}), False)
        for thing in odd_things():
            if not isinstance(thing, dict) or thing:
                self.told(((), thing, {}, {}, {}, {}), False)
                self.told(((), {}, thing, {}, {}, {}), False)
                self.told(((), {}, {}, thing, {}, {}), False)

    def test_leads_of_kinds(self):
        for leads in [{"n": ()}, {"n": (("a", X),)}, {"n": (("a", X), ("b", number(1)))},
                      {"n": (("f", X),), "m": (), "z": (("f", ("add", X, X)),)}]:
            self.told(((), {}, {}, {}, leads, {}), True)
        for leads in [{"n": (("b", X), ("a", X))}, {"n": (("a", X), ("a", X))}, {"n": (("a", X), ("a", IT))},
                      {"n": (("aa", X), ("a", X))}, {"n": [("a", X)]}, {"n": []}, {"n": {}}, {"n": {"a": X}}, {"n": None},
                      {"n": X}, {"n": "a"}, {"n": ("a", X)}, {"n": (["a", X],)}, {"n": (("a",),)}, {"n": (("a", X, X),)},
                      {"n": (("a", X), None)}, {"n": (("a", X), ())}, {"n": ((X, "a"),)}, {"n": ((1, X),)}, {"n": 0},
                      {"n": (("a", "x"),)}, {"n": (("a", 1),)}, {"n": (("a", NUMBER),)}, {"m": (), "n": (("a", None),)}]:
            self.told(((), {}, {}, {}, leads, {}), False)
        for word in BAD_NAMES:
            self.told(((), {}, {}, {}, {word: ()}, {}), False)
            self.told(((), {}, {}, {}, {"n": ((word, X),)}, {}), False)
        for word in (1, None, True, ("n",), 1.5, b"n"):
            self.told(((), {}, {}, {}, {word: ()}, {}), False)

    def test_leads_of_boxes(self):
        for leads in [{"b": IT}, {"b": X, "a": number(1), "z": ("list", IT, IT)}]:
            self.told(((), {}, {}, {}, {}, leads), True)
        for leads in [{"b": ()}, {"b": None}, {"b": "it"}, {"b": 1}, {"b": True}, {"b": ["name", "it"]}, {"b": NUMBER},
                      {"b": (IT,)}, {"b": (("it", IT),)}, {"a": IT, "b": ()}]:
            self.told(((), {}, {}, {}, {}, leads), False)
        for word in [*BAD_NAMES, 1, None, True, ("b",), b"b"]:
            self.told(((), {}, {}, {}, {}, {word: IT}), False)

    def test_terms_of_leads(self):
        for term, _ in TERMS:
            wanted = not with_boxes_or_fields(term)
            self.told(((), {}, {}, {}, {"n": (("a", term),)}, {}), wanted)
            self.told(((), {}, {}, {}, {}, {"b": term}), wanted)
        for term in BAD_TERMS + odd_things():
            self.told(((), {}, {}, {}, {"n": (("a", term),)}, {}), False)
            self.told(((), {}, {}, {}, {"n": (("a", X), ("b", term))}, {}), False)
            self.told(((), {}, {}, {}, {}, {"b": term}), False)

    def test_boxes_and_fields_however_deep(self):
        wraps = [lambda term: ("not", term), lambda term: ("add", number(1), term), lambda term: ("list", X, X, term),
                 lambda term: ("pick", X, term, X), lambda term: ("at", term, X, X)]
        for wrap, depth in itertools.product(wraps, (0, 1, 2, 5, 11, 12, 13, 600)):
            for bottom, wanted in [(X, True), (("empty", NUMBER), True), (("box", "b"), False), (("field", X, "f"), False)]:
                self.told(((), {}, {}, {}, {"n": (("a", deep(depth, bottom, wrap)),)}, {}), wanted)
                self.told(((), {}, {}, {}, {}, {"b": deep(depth, bottom, wrap)}), wanted)

    def test_too_many_and_too_few_and_lists(self):
        for thing in odd_things() + [(), ((),), NOTHING[:5], NOTHING + ({},), NOTHING[1:], list(NOTHING), None, "", 0,
                                     ({}, {}, {}), {}, ({}, {}, {}, {}, {}, ()), ((), (), {}, {}, {}, {})]:
            self.told(thing, False)
        for at in range(6):
            for other in ([], [()], None, "", 0, set(), (), [("a", X)]):
                if at or other != ():
                    self.told(NOTHING[:at] + (other,) + NOTHING[at + 1:], False)
        for at in range(4, 6):
            for thing in odd_things():
                if not isinstance(thing, dict) or thing:
                    self.told(NOTHING[:at] + (thing,) + NOTHING[at + 1:], False)

    def test_what_would_fit_nowhere_is_a_change_all_the_same(self):
        self.told((("n",), {"n": ()}, {}, {}, {"n": (), "m": ()}, {"n": IT}), True)
        self.told(((), {"n": (("a", ("record", "gone")),)}, {"b": (NUMBER, True)}, {"p": ((), NUMBER, (("back", X),))},
                   {}, {}), True)

    def test_no_name_in_two_of_the_three_and_no_mark_twice(self):
        marked = ((), NUMBER, (("mark", "m"), ("go", 0)))
        self.told(((), {}, {}, {"p": marked}, {}, {}), True)
        self.told(((), {}, {}, {"p": marked, "q": marked}, {}, {}), False)
        self.told(((), {"p": ()}, {}, {"p": marked}, {}, {}), False)
        self.told(((), {}, {"p": (NUMBER, 1)}, {"p": marked}, {}, {}), False)


WHOLE = read_program("""\
kind bare
kind node n number, to [node]
kind pair a number, b truth
box all [node] = []
box flag truth = yes
box many number = 3
box pairs [pair] = []
part main (k number) number
  put many k
  mark loop
  new x node n k, to #all
  put all (list x)
  call y side x
  mark last
  back y
part other () number
  mark far
  back 0
part side (x node) number
  mark near
  back (field x n)
""")


class Told(unittest.TestCase):
    """Programs behind changes that are let by, and the three refusals."""

    def behind(self, text, *, gone=(), lines=""):
        """The program behind a change has the lines of the one ahead, but for these names, and these lines."""
        told = changed(WHOLE, read_change(text))
        more = read_program(lines)
        wanted = tuple({**{one: thing for one, thing in things.items() if one not in gone}, **anew}
                       for things, anew in zip(WHOLE, more))
        self.assertTrue(alike(told, wanted), program_text(told))
        self.assertIs(is_program(told), True)
        papers_of(told)

    def refused(self, text, error, *values, program=WHOLE):
        change = read_change(text) if isinstance(text, str) else text
        with self.assertRaises(ChangeError, msg=text) as caught:
            changed(program, change)
        self.assertIs(type(caught.exception), error, text)
        slots = {NoFit: ("name",), NoLead: ("name", "field"), NotRight: ("name", "row")}[error]
        self.assertEqual(tuple(getattr(caught.exception, slot) for slot in slots), values, text)
        self.assertIsInstance(caught.exception, ValueError)
        for other in ("NoText", "NotRight", "Stuck", "NoFit", "NoLead", "NotNow"):
            self.assertIs(isinstance(caught.exception, getattr(errors, other)), other == error.__name__)


class Behind(Told):
    def test_nothing(self):
        self.behind("")

    def test_outs(self):
        self.behind("out bare\n", gone=["bare"])
        self.behind("out flag\n", gone=["flag"])
        self.behind("out bare\nout flag\nout other\n", gone=["bare", "flag", "other"])
        self.behind("out pair\nout pairs\n", gone=["pair", "pairs"])
        self.assertEqual(changed(read_program("kind n\nbox b number = 1\npart p () number\n  go 0\n"),
                                 read_change("out b\nout n\nout p\n")), ({}, {}, {}))

    def test_what_was_not_there(self):
        lines = "kind anew x number\nbox bold truth = no\npart pull () number\n  mark m\n  back 1\n"
        self.behind(lines, lines=lines)

    def test_what_was_there_as_it_was(self):
        self.behind(program_text(WHOLE))
        for line in program_text(WHOLE).splitlines(keepends=True)[:7]:
            self.behind(line)
        for part in ("other", "side", "main"):
            self.behind(program_text(({}, {}, {part: WHOLE[2][part]})))

    def test_kinds_put_anew(self):
        for line in ["kind pair a number\n", "kind pair\n", "kind pair b truth\n"]:
            self.behind(line, lines=line)
        for line, leads in [("kind pair a number, b truth, c number\n", "c (add a 1)"),
                            ("kind pair c number\n", "c 0"), ("kind pair a truth\n", "a b"),
                            ("kind pair a truth, b number\n", "a b, b a"),
                            ("kind pair a number, b truth\n", "a (times a 2)"),
                            ("kind pair b [number]\n", "b (list a (pick b a 0))"),
                            ("kind pair a number, c [pair]\n", "c (empty pair)")]:
            self.behind(line + "lead pair " + leads + "\n", lines=line)
        self.behind("kind pair a number\nlead pair\n", lines="kind pair a number\n")

    def test_boxes_put_anew(self):
        for line, lead in [("box many number = 9\n", ""), ("box flag truth = no\n", ""),
                           ("box many number = 9\n", "lead many it\n"), ("box many number = 9\n", "lead many (add it 1)\n"),
                           ("box many truth = no\n", "lead many (under it 3)\n"), ("box many truth = no\n", "lead many yes\n"),
                           ("box many [number] = []\n", "lead many (list it it)\n"),
                           ("box all [[node]] = []\n", None), ("box flag number = 0\n", "lead flag (pick it 1 0)\n")]:
            if lead is None:
                lead = "lead all (list it)\n"
                line += "part main (k number) number\n  back 0\n"
            elif "many [number]" in line or "many truth" in line:
                line += "part main (k number) number\n  back 0\n"
            self.behind(line + lead, lines=line)

    def test_parts_put_anew(self):
        for lines in ["part other () truth\n  back yes\n", "part other (x truth) number\n  mark far\n  back 1\n",
                      "part side (x node) number\n  mark near\n  call y other\n  back y\n"]:
            self.behind(lines, lines=lines)

    def test_a_mark_may_go_from_one_part_to_another(self):
        lines = ("part other () number\n  mark near\n  back 0\npart side (x node) number\n  mark far\n"
                 "  back (field x n)\n")
        self.behind(lines, lines=lines)
        lines = "part side (x node) number\n  mark far\n  back (field x n)\n"
        self.behind("out other\n" + lines, gone=["other"], lines=lines)
        lines = "part fresh () number\n  mark near\n  back 0\npart side (x node) number\n  back (field x n)\n"
        self.behind(lines, lines=lines)

    def test_dicts_of_its_own(self):
        change = read_change("box many number = 9\n")
        told = changed(WHOLE, change)
        for things in (*WHOLE, *change[1:]):
            for one in told:
                self.assertIsNot(one, things)
        again = changed(WHOLE, change)
        for one in told:
            one.clear()
        self.assertTrue(alike(changed(WHOLE, change), again))


class Unfit(Told):
    def test_an_out_that_is_not_there(self):
        self.refused("out gone\n", NoFit, "gone")
        self.refused("out loop\n", NoFit, "loop")
        self.refused("out k\n", NoFit, "k")
        self.refused("out bare\nout zz\n", NoFit, "zz")

    def test_an_out_that_is_put(self):
        self.refused("out bare\nkind bare\n", NoFit, "bare")
        self.refused("out bare\nbox bare number = 1\n", NoFit, "bare")
        self.refused("out bare\npart bare () number\n  back 0\n", NoFit, "bare")
        self.refused("out flag\nbox flag truth = yes\n", NoFit, "flag")
        self.refused("out other\npart other () number\n  mark far\n  back 0\n", NoFit, "other")
        self.refused("out other\npart other () number\n  back 0\n", NoFit, "other")
        self.refused("out fresh\nkind fresh\n", NoFit, "fresh")

    def test_a_thing_of_another_sort(self):
        texts = ["kind {}\n", "box {} number = 1\n", "part {} () number\n  back 0\n"]
        for word, own in [("bare", 0), ("pair", 0), ("flag", 1), ("many", 1), ("other", 2), ("main", 2)]:
            for k, text in enumerate(texts):
                if k != own:
                    self.refused(text.format(word), NoFit, word)

    def test_leads_of_what_was_not_there_or_is_not_put_anew(self):
        self.refused("lead pair\n", NoFit, "pair")
        self.refused("lead pair a 1\n", NoFit, "pair")
        self.refused("lead gone\n", NoFit, "gone")
        self.refused("lead many it\n", NoFit, "many")
        self.refused("lead gone it\n", NoFit, "gone")
        self.refused("kind fresh a number\nlead fresh a 1\n", NoFit, "fresh")
        self.refused("kind fresh\nlead fresh\n", NoFit, "fresh")
        self.refused("box fresh number = 1\nlead fresh it\n", NoFit, "fresh")
        self.refused("kind bare\nlead pair a 1\n", NoFit, "pair")
        self.refused("out pair\nout pairs\nlead pair\n", NoFit, "pair")
        self.refused("out flag\nlead flag it\n", NoFit, "flag")

    def test_leads_of_a_thing_of_another_sort(self):
        self.refused("box many number = 1\nlead many\n", NoFit, "many")
        self.refused("box many number = 1\nlead many it it\n", NoFit, "many")
        self.refused("kind pair a number\nlead pair it\n", NoFit, "pair")
        self.refused("part other () number\n  back 0\nlead other\n", NoFit, "other")
        self.refused("part other () number\n  back 0\nlead other it\n", NoFit, "other")
        self.refused("lead main\n", NoFit, "main")
        self.refused("kind many\nlead many\n", NoFit, "many")

    def test_leads_of_a_field_that_the_new_kind_lacks(self):
        self.refused("kind pair a number\nlead pair b yes\n", NoFit, "pair")
        self.refused("kind pair a number\nlead pair a 1, c yes\n", NoFit, "pair")
        self.refused("kind bare\nlead bare a 1\n", NoFit, "bare")

    def test_marks_that_would_be_in_two_rows(self):
        self.refused("part fresh () number\n  mark far\n  back 0\n", NoFit, "far")
        self.refused("part side (x node) number\n  mark near\n  mark far\n  back 0\n", NoFit, "far")
        self.refused("part other () number\n  mark last\n  mark loop\n  back 0\n", NoFit, "last")
        self.refused("part other () number\n  mark near\n  back 0\npart side (x node) number\n  mark loop\n  back 0\n",
                     NoFit, "loop")

    def test_the_first_by_sorted_names(self):
        # Each fault is a line or more, in the order in which a text has them.
        faults = [("aa", "out aa\n"), ("all", "kind all\n"), ("main", "box main number = 1\n"),
                  ("far", "part fresh () number\n  mark far\n  back 0\n"), ("bare", "lead bare\n"),
                  ("pair", "lead pair a 1\n"), ("b", "lead b it\n")]
        for many in range(1, 8):
            for some in itertools.combinations(faults, many):
                self.refused("".join(text for _, text in some), NoFit, min(word for word, _ in some))

    def test_a_marks_name_among_the_others(self):
        self.refused("out ex\npart fresh () number\n  mark far\n  back 0\n", NoFit, "ex")
        self.refused("out fax\npart fresh () number\n  mark far\n  back 0\n", NoFit, "far")


class Leadless(Told):
    def test_fields_without_a_lead(self):
        self.refused("kind pair a truth\n", NoLead, "pair", "a")
        self.refused("kind pair a number, b truth, c number\n", NoLead, "pair", "c")
        self.refused("kind pair a number, b [truth]\n", NoLead, "pair", "b")
        self.refused("kind pair a truth, b number\n", NoLead, "pair", "a")
        self.refused("kind pair a truth, b number\nlead pair a b\n", NoLead, "pair", "b")
        self.refused("kind bare x number\n", NoLead, "bare", "x")
        self.refused("kind bare x number\nlead bare\n", NoLead, "bare", "x")
        self.refused("kind node n number, to [pair]\n", NoLead, "node", "to")

    def test_boxes_without_a_lead(self):
        self.refused("box many truth = no\n", NoLead, "many", "")
        self.refused("box many [number] = []\n", NoLead, "many", "")
        self.refused("box all [pair] = []\n", NoLead, "all", "")
        self.refused("box flag number = 1\n", NoLead, "flag", "")

    def test_the_first_by_sorted_pairs(self):
        self.refused("kind bare z number, zz truth\nkind pair a truth\nbox many truth = no\n", NoLead, "bare", "z")
        self.refused("kind bare\nkind pair c truth, d truth\nbox many truth = no\n", NoLead, "many", "")
        self.refused("kind pair a truth\nbox all truth = no\nbox flag number = 1\n", NoLead, "all", "")
        self.refused("kind bare x number\nkind pair c number\nbox all truth = no\n", NoLead, "all", "")
        self.refused("kind pair b number, c number\n", NoLead, "pair", "b")

    def test_what_is_put_for_the_first_time_needs_none(self):
        self.behind("kind fresh x number\n", lines="kind fresh x number\n")
        self.behind("box fresh [pair] = []\n", lines="box fresh [pair] = []\n")


class Wrong(Told):
    def test_what_is_not_right_as_any_program(self):
        self.refused("kind pair a number, z gone\nlead pair z a\n", NotRight, "pair", -1)
        self.refused("kind fresh z gone\n", NotRight, "fresh", -1)
        self.refused("box fresh number = yes\n", NotRight, "fresh", -1)
        self.refused("box many number = yes\n", NotRight, "many", -1)
        self.refused("box fresh gone = 1\n", NotRight, "fresh", -1)
        self.refused("part fresh (x gone) number\n  back 0\n", NotRight, "fresh", -1)
        self.refused("part fresh () number\n  tell 0\n  back yes\n", NotRight, "fresh", 1)
        self.refused("part other (x number) number\n  call y other\n  back 0\n", NotRight, "other", 0)

    def test_what_stays_and_is_not_right_any_more(self):
        self.refused("out side\n", NotRight, "main", 4)
        self.refused("out many\n", NotRight, "main", 0)
        self.refused("out pair\n", NotRight, "pairs", -1)
        self.refused("out node\n", NotRight, "all", -1)
        self.refused("part side () number\n  back 0\n", NotRight, "main", 4)
        self.refused("part side (x node) truth\n  back yes\n", NotRight, "main", 6)
        self.refused("kind node n number, to [node], z truth\nlead node z yes\n", NotRight, "main", 2)
        self.refused("box many truth = yes\nlead many yes\n", NotRight, "main", 0)

    def test_leads_of_another_kind(self):
        for lead in ["a yes", "a b", "a (list a)", "a (under a 1)", "a (add a b)", "a x", "a it", "a pair", "a n",
                     "a (empty number)", "a (pick b a b)", "a (add c 1)"]:
            self.refused("kind pair a number, b truth, c truth\nlead pair " + lead + ", c yes\n", NotRight, "pair", -1)
        for lead in ["yes", "x", "(list it)", "a", "many", "(under it 1)", "(add x 1)", "(empty number)", "(not it)"]:
            self.refused("box many number = 1\nlead many " + lead + "\n", NotRight, "many", -1)
        self.refused("box flag number = 0\nlead flag it\n", NotRight, "flag", -1)
        self.refused("kind bare x number\nlead bare x it\n", NotRight, "bare", -1)

    def test_leads_are_held_by_the_old_fields_alone(self):
        self.behind("kind pair b truth, z number\nlead pair z a\n", lines="kind pair b truth, z number\n")
        self.refused("kind pair b truth, y number, z number\nlead pair y a, z y\n", NotRight, "pair", -1)
        self.refused("kind pair a number, b number\nlead pair a (pick b 1 0), b b\n", NotRight, "pair", -1)

    def test_a_lead_that_is_not_needed_is_to_be_right_too(self):
        self.refused("kind pair a number, b truth\nlead pair a yes\n", NotRight, "pair", -1)
        self.refused("box many number = 1\nlead many yes\n", NotRight, "many", -1)

    def test_old_kinds_that_are_not_there_any_more(self):
        program = read_program("kind big one small, some [small], x number\nkind small\nbox kept [small] = []\n")
        for text, told in [("lead big y (same one one)\n", False), ("lead big y (under 0 (many some))\n", False),
                           ("lead big y (same x 1)\n", True)]:
            text = "out small\nkind big y truth\nbox kept number = 0\n" + text
            if told:
                change = read_change(text + "lead kept 5\n")
                self.assertEqual(changed(program, change)[0], {"big": (("y", TRUTH),)})
            else:
                self.refused(text + "lead kept 5\n", NotRight, "big", -1, program=program)
        self.refused("out small\nkind big x number\nbox kept number = 0\nlead kept (many it)\n", NotRight, "kept", -1,
                     program=program)
        self.refused("out small\nkind big x number\nbox kept [small] = []\n", NotRight, "kept", -1, program=program)
        self.refused("out small\nkind big one small\nbox kept number = 0\nlead kept 5\n", NotRight, "big", -1,
                     program=program)

    def test_leads_are_right_by_the_new_program(self):
        text = "kind fresh\nkind pair a [fresh], b truth\nlead pair a (empty fresh)\n"
        self.behind(text, lines="kind fresh\nkind pair a [fresh], b truth\n")
        self.refused("out bare\nkind pair a number, b truth, c number\nlead pair c (many (empty bare))\n",
                     NotRight, "pair", -1)

    def test_the_first_by_sorted_name_and_row(self):
        faults = [("bare", -1, "kind bare x number\n", "lead bare x it\n"), ("brr", -1, "kind brr f gone\n", ""),
                  ("flag", -1, "box flag truth = 1\n", ""), ("many", -1, "box many number = 1\n", "lead many yes\n"),
                  ("other", 1, "part other () number\n  tell 0\n  tell yes\n  back yes\n", ""),
                  ("part", -1, "part part () gone\n  back yes\n", "")]
        for many in range(1, 7):
            for some in itertools.combinations(faults, many):
                lines = "".join(line for _, _, line, _ in some) + "".join(lead for _, _, _, lead in some)
                self.refused(lines, NotRight, some[0][0], some[0][1])


class Order(Told):
    def test_first_what_does_not_fit_then_leads_then_what_is_not_right(self):
        unfit, leadless, wrong = "out zz\n", "kind pair a truth\n", "part aa () number\n  back yes\n"
        self.refused(unfit + leadless + wrong, NoFit, "zz")
        self.refused(unfit + wrong, NoFit, "zz")
        self.refused(unfit + leadless, NoFit, "zz")
        self.refused(leadless + wrong, NoLead, "pair", "a")
        self.refused(wrong, NotRight, "aa", 0)
        self.refused("kind pair a truth\nlead pair b yes\n", NoFit, "pair")
        self.refused("kind pair b gone\n", NoLead, "pair", "b")

    def test_behind_a_refusal_a_right_change_is_let_by(self):
        for text in ["out zz\n", "kind pair a truth\n", "part aa () number\n  back yes\n"]:
            with self.assertRaises(ChangeError):
                changed(WHOLE, read_change(text))
            self.assertTrue(alike(changed(WHOLE, NOTHING), WHOLE))


class Asked(unittest.TestCase):
    def test_what_is_handed_in_stays(self):
        for text in ["", "out bare\n", "out zz\n", "kind pair a truth\n", "part aa () number\n  back yes\n",
                     "kind pair a truth\nbox many number = 9\npart other () truth\n  back yes\nlead pair a b\nlead many 1\n"]:
            program, change = copy.deepcopy(WHOLE), read_change(text)
            kept = copy.deepcopy(change)
            told = []
            for _ in range(2):
                try:
                    told.append(changed(program, change))
                except ChangeError as error:
                    told.append((type(error).__name__, vars(error)))
            self.assertTrue(alike(told[0], told[1]))
            self.assertTrue(alike(program, WHOLE))
            self.assertTrue(alike(change, kept))
            self.assertEqual([list(things) for things in program], [list(things) for things in WHOLE])

    def test_what_is_done_later_has_no_bearing(self):
        program, change = copy.deepcopy(WHOLE), read_change("box many number = 9\n")
        told = changed(program, change)
        kept = copy.deepcopy(told)
        for things in (*program, *change[1:]):
            things.clear()
        self.assertTrue(alike(told, kept))

    def test_things_that_are_none_stay(self):
        for thing in [(["a"], {}, {}, {}, {"n": [("a", X)]}, {}), [[], {}, {}, {}, {}, {}],
                      ((), {"n": [["a", ["number"]]]}, {}, {}, {}, {"b": ["name", "it"]})]:
            kept = copy.deepcopy(thing)
            self.assertIs(is_change(thing), False)
            self.assertTrue(alike(thing, kept))

    def test_made_programs_changed_into_one_another(self):
        programs = made_programs(30)
        done = 0
        for one, other in zip(programs, programs[1:]):
            outs = tuple(sorted(name for name in one[2] if name != "main"))
            parts = {"main": ((), NUMBER, (("mark", "zz"), ("back", ("number", 0))))}
            for change in [(outs, {}, {}, parts, {}, {}), ((), {}, {}, parts, {}, {}), ((), *one, {}, {}),
                           ((), *other, {}, {}), (tuple(sorted([*one[0], *one[1], *one[2]])), {}, {}, {}, {}, {})]:
                self.assertIs(is_change(change), True)
                try:
                    told = changed(one, change)
                except (NoFit, NoLead, NotRight):
                    continue
                done += 1
                self.assertIs(is_program(told), True)
                papers_of(told)
                for things, ahead, anew in zip(told, one, change[1:4]):
                    self.assertTrue(alike(things, {**{name: ahead[name] for name in ahead if name not in change[0]},
                                                   **anew}))
        self.assertGreater(done, 60)


if __name__ == "__main__":
    unittest.main()
