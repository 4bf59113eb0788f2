"""Parts and programs, points 2 and 9."""

import copy
import unittest

from changewhile.programs import is_part, is_program, marks_of
from tests.examples import (BACK, BAD_PARTS, BAD_PROGRAMS, NUMBER, PART, PARTS, PROGRAMS, TRUTH, X, alike, marked,
                            odd_things)


class Parts(unittest.TestCase):
    def test_parts(self):
        for part, _ in PARTS:
            self.assertIs(is_part(part), True, part)

    def test_things_that_are_none(self):
        for thing in BAD_PARTS + odd_things():
            self.assertIs(is_part(thing), False, repr(thing))

    def test_odd_things_in_each_place(self):
        for thing in odd_things():
            self.assertIs(is_part((thing, NUMBER, BACK)), False, repr(thing))
            self.assertIs(is_part(((), thing, BACK)), False, repr(thing))
            self.assertIs(is_part(((), NUMBER, thing)), False, repr(thing))
            self.assertIs(is_part(((thing,), NUMBER, BACK)), False, repr(thing))
            self.assertIs(is_part(((("x", thing),), NUMBER, BACK)), False, repr(thing))
            self.assertIs(is_part((((thing, NUMBER),), NUMBER, BACK)), False, repr(thing))
            self.assertIs(is_part(((), NUMBER, (thing,))), False, repr(thing))
            self.assertIs(is_part(((), NUMBER, (thing, ("back", X)))), False, repr(thing))

    def test_takes_need_not_be_sorted(self):
        self.assertIs(is_part(((("b", NUMBER), ("a", TRUTH)), NUMBER, BACK)), True)
        self.assertIs(is_part(((("a", NUMBER), ("b", TRUTH)), NUMBER, BACK)), True)

    def test_numbers_of_rows_at_the_end(self):
        for many in range(1, 61):
            for n in (0, many - 1, many, many + 1):
                rows = (("tell", X),) * (many - 1) + (("go", n),)
                self.assertIs(is_part(((), NUMBER, rows)), n < many)
                rows = (("unless", X, n),) + (("tell", X),) * (many - 1) + (("back", X),)
                self.assertIs(is_part(((), NUMBER, rows)), n <= many)

    def test_what_is_not_there_or_not_right_is_a_part_all_the_same(self):
        rows = (("call", "x", "nowhere", ()), ("put", "nowhere", ("not", ("number", 1))), ("back", ("box", "none")))
        self.assertIs(is_part(((), ("record", "nowhere"), rows)), True)


class Programs(unittest.TestCase):
    def test_programs(self):
        for program, _ in PROGRAMS:
            self.assertIs(is_program(program), True, program)

    def test_the_dicts_may_be_empty(self):
        self.assertIs(is_program(({}, {}, {})), True)

    def test_things_that_are_none(self):
        for thing in BAD_PROGRAMS + odd_things():
            self.assertIs(is_program(thing), False, repr(thing))

    def test_odd_things_in_each_place(self):
        for thing in odd_things():
            if not isinstance(thing, dict) or thing:
                self.assertIs(is_program((thing, {}, {})), False, repr(thing))
                self.assertIs(is_program(({}, thing, {})), False, repr(thing))
                self.assertIs(is_program(({}, {}, thing)), False, repr(thing))
            self.assertIs(is_program(({"n": thing}, {}, {})), False, repr(thing))
            self.assertIs(is_program(({"n": (thing,)}, {}, {})), False, repr(thing))
            self.assertIs(is_program(({"n": (("a", thing),)}, {}, {})), False, repr(thing))
            self.assertIs(is_program(({}, {"b": thing}, {})), False, repr(thing))
            self.assertIs(is_program(({}, {"b": (NUMBER, thing)}, {})), False, repr(thing))
            self.assertIs(is_program(({}, {"b": (thing, 1)}, {})), False, repr(thing))
            self.assertIs(is_program(({}, {}, {"p": thing})), False, repr(thing))

    def test_no_name_in_two_of_the_three(self):
        self.assertIs(is_program(({"a": ()}, {"b": (NUMBER, 1)}, {"c": PART})), True)
        self.assertIs(is_program(({"a": ()}, {"a": (NUMBER, 1)}, {"c": PART})), False)
        self.assertIs(is_program(({"a": ()}, {"b": (NUMBER, 1)}, {"a": PART})), False)
        self.assertIs(is_program(({"a": ()}, {"b": (NUMBER, 1)}, {"b": PART})), False)

    def test_names_of_other_things_may_stand_again(self):
        part = ((("n", NUMBER), ("b", NUMBER), ("p", NUMBER)), NUMBER, (("mark", "n"), ("mark", "p"), ("back", X)))
        self.assertIs(is_program(({"n": (("b", NUMBER), ("n", NUMBER), ("p", NUMBER))}, {"b": (NUMBER, 1)},
                                  {"p": part})), True)

    def test_marks(self):
        self.assertIs(is_program(({}, {}, {"p": marked("a", "b"), "q": marked("c", "d")})), True)
        self.assertIs(is_program(({}, {}, {"p": marked("a", "a")})), False)
        self.assertIs(is_program(({}, {}, {"p": marked("a", "b"), "q": marked("c", "b")})), False)
        self.assertIs(is_program(({}, {}, {"p": marked("a"), "q": marked(), "s": marked("a")})), False)

    def test_what_is_not_right_is_a_program_all_the_same(self):
        self.assertIs(is_program(({"n": (("a", ("record", "nowhere")),)}, {"b": (NUMBER, True)}, {})), True)
        self.assertIs(is_program(({}, {"b": (("record", "nowhere"), ((1, True), ()))}, {})), True)

    def test_twenty_of_each(self):
        kinds = {"k" + letter: (("a", NUMBER),) for letter in "abcdefghijklmnopqrst"}
        boxes = {"b" + letter: (NUMBER, 1) for letter in "abcdefghijklmnopqrst"}
        parts = {"p" + letter: marked("m" + letter) for letter in "abcdefghijklmnopqrst"}
        self.assertIs(is_program((kinds, boxes, parts)), True)
        self.assertEqual(marks_of((kinds, boxes, parts)), {"m" + letter: ("p" + letter, 0)
                                                           for letter in "abcdefghijklmnopqrst"})


class Marks(unittest.TestCase):
    def test_of_programs(self):
        self.assertEqual(marks_of(({}, {}, {})), {})
        self.assertEqual(marks_of(({"n": ()}, {"b": (NUMBER, 1)}, {"p": PART})), {})
        self.assertEqual(marks_of(({}, {}, {"p": marked("a", "b"), "q": marked(), "s": marked("p")})),
                         {"a": ("p", 0), "b": ("p", 1), "p": ("s", 0)})
        rows = (("tell", X), ("mark", "m"), ("let", "mark", X), ("mark", "x"), ("go", 0), ("mark", "y"), ("back", X))
        self.assertEqual(marks_of(({}, {}, {"q": ((), NUMBER, rows)})), {"m": ("q", 1), "x": ("q", 3), "y": ("q", 5)})

    def test_places_are_tuples(self):
        told = marks_of(({}, {}, {"p": marked("a", "b")}))
        self.assertTrue(alike(told, {"a": ("p", 0), "b": ("p", 1)}))

    def test_the_dict_is_the_askers_own(self):
        for program, _ in PROGRAMS:
            first = marks_of(program)
            self.assertIs(type(first), dict)
            kept = dict(first)
            second = marks_of(program)
            self.assertIsNot(first, second)
            first["other"] = ("p", 0)
            self.assertEqual(second, kept)
            self.assertEqual(marks_of(program), kept)

    def test_what_is_done_later_has_no_bearing(self):
        program = ({}, {}, {"p": marked("a")})
        told = marks_of(program)
        program[2]["q"] = marked("b")
        del program[2]["p"]
        self.assertEqual(told, {"a": ("p", 0)})
        self.assertEqual(marks_of(program), {"b": ("q", 0)})


class Asked(unittest.TestCase):
    def test_asked_again_all_is_told_alike_and_nothing_changes(self):
        for program, _ in PROGRAMS:
            before = copy.deepcopy(program)
            first = (is_program(program), marks_of(program))
            second = (is_program(program), marks_of(program))
            self.assertTrue(alike(first, second))
            self.assertTrue(alike(program, before))
            self.assertEqual([list(things) for things in program], [list(things) for things in before])

    def test_things_that_are_none_stay(self):
        for thing in [({"n": [("a", ["number"])]}, {}, {}), ({}, {"b": [NUMBER, [1]]}, {}), [{}, {"b": []}, {}],
                      ({}, {}, {"p": [[], NUMBER, [["back", X]]]})]:
            before = copy.deepcopy(thing)
            self.assertIs(is_program(thing), False)
            self.assertTrue(alike(thing, before))

    def test_a_dict_that_changes_is_looked_at_anew(self):
        program = ({}, {}, {})
        self.assertIs(is_program(program), True)
        program[0]["yes"] = ()
        self.assertIs(is_program(program), False)
        del program[0]["yes"]
        self.assertIs(is_program(program), True)


if __name__ == "__main__":
    unittest.main()
