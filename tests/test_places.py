"""Places at marks and chains to them, points 2, 3 and 19."""

import copy
import unittest

from changewhile.papers import papers_of
from changewhile.places import chain_to, places_at
from changewhile.programs import marks_of
from changewhile.programtexts import read_program
from changewhile.states import begun, stepped
from tests.examples import alike
from tests.making import made_programs

WHOLE = read_program("""\
part alone () number
  call x leaf
  mark lonely
  back x
part leaf () number
  mark low
  back 0
part main () number
  mark top
  call x mid
  call y other
  go 5
  call z leaf
  call w other
  back x
part mid () number
  call x leaf
  unless yes 3
  call x round
  mark within
  back x
part never () number
  mark unmet
  back 0
part other () number
  back 0
  call x leaf
  mark shut
  back x
part round () number
  call x mid
  call y round
  call x other
  back y
""")


def is_chain(program, start, mark, place, chain):
    """Whether a chain is one to a place at a mark, by the very words of the document."""
    papers = papers_of(program)
    parts = program[2]
    if not isinstance(chain, tuple) or not chain or chain[0][0] != start or place not in chain:
        return False
    if chain[-1] != marks_of(program)[mark]:
        return False
    if not all(isinstance(one, tuple) and papers[one[0]][one[1]] is not None for one in chain):
        return False
    for one, behind in zip(chain, chain[1:]):
        row = parts[one[0]][2][one[1]]
        if row[0] != "call" or row[2] != behind[0]:
            return False
    return True


def places_another_way(program, start, mark):
    """The places that stand on some way of calls from the start to the mark, found by going all ways back."""
    papers, parts = papers_of(program), program[2]
    calls = {(name, r, row[2]) for name, (_, _, rows) in parts.items() for r, row in enumerate(rows)
             if row[0] == "call" and papers[name][r] is not None}
    called, ahead = {start}, set()
    for _ in parts:
        called |= {callee for name, _, callee in calls if name in called}
    part, row = marks_of(program)[mark]
    ahead = {part}
    for _ in parts:
        ahead |= {name for name, _, callee in calls if callee in ahead}
    if part not in called or papers[part][row] is None:
        return ()
    return tuple(sorted({(part, row)} | {(name, r) for name, r, callee in calls if name in called and callee in ahead}))


class Places(unittest.TestCase):
    def told(self, start, mark, *places):
        self.assertTrue(alike(places_at(WHOLE, start, mark), places), places_at(WHOLE, start, mark))

    def test_the_marks_own(self):
        self.told("main", "top", ("main", 0))
        self.told("alone", "lonely", ("alone", 1))
        self.told("leaf", "low", ("leaf", 0))
        self.told("never", "unmet", ("never", 0))

    def test_calls_by_which_the_marks_part_is_come_to(self):
        self.told("alone", "low", ("alone", 0), ("leaf", 0))
        self.told("main", "low", ("leaf", 0), ("main", 1), ("mid", 0), ("mid", 2), ("round", 0), ("round", 1))

    def test_round_loops_of_calls(self):
        self.told("mid", "within", ("mid", 2), ("mid", 3), ("round", 0), ("round", 1))
        self.told("round", "within", ("mid", 2), ("mid", 3), ("round", 0), ("round", 1))
        self.told("main", "within", ("main", 1), ("mid", 2), ("mid", 3), ("round", 0), ("round", 1))

    def test_a_part_that_is_not_called(self):
        self.told("main", "unmet")
        self.told("main", "lonely")
        self.told("alone", "top")
        self.told("leaf", "within")
        self.told("other", "low")
        self.told("mid", "top")

    def test_a_row_that_is_not_open(self):
        self.told("main", "shut")
        self.told("other", "shut")

    def test_calls_that_are_not_open_or_of_parts_not_called(self):
        for start in ("main", "mid", "round"):
            for mark in ("low", "within"):
                told = places_at(WHOLE, start, mark)
                for place in [("main", 4), ("main", 2), ("main", 5), ("other", 1), ("alone", 0), ("round", 2)]:
                    self.assertNotIn(place, told)
                if start != "main":
                    self.assertNotIn(("main", 1), told)

    def test_a_part_that_calls_itself(self):
        program = read_program("part p (n number) number\n  unless (under n 3) 4\n  mark m\n  call x p (add n 1)\n"
                               "  call y p x\n  back n\n")
        self.assertEqual(places_at(program, "p", "m"), (("p", 1), ("p", 2), ("p", 3)))

    def test_through_many_calls(self):
        parts = "".join("part p" + chr(97 + k) + " () number\n  tell 0\n  call x p" + chr(98 + k) + "\n  back x\n"
                        for k in range(19))
        program = read_program(parts + "part pt () number\n  mark m\n  back 0\n")
        names = ["p" + chr(97 + k) for k in range(20)]
        for k, name in enumerate(names):
            told = tuple((one, 1) for one in names[k:19]) + (("pt", 0),)
            self.assertEqual(places_at(program, name, "m"), told)
            for place in told:
                self.assertEqual(chain_to(program, name, "m", place), told)

    def test_made_programs_another_way(self):
        for program in made_programs(60):
            for mark in marks_of(program):
                for start in program[2]:
                    self.assertTrue(alike(places_at(program, start, mark), places_another_way(program, start, mark)))

    def test_where_frames_stand_when_a_mark_is_met(self):
        met = 0
        for program in made_programs(60):
            named = {place: mark for mark, place in marks_of(program).items()}
            state = begun(program, "main", ())
            for _ in range(150):
                if state[4] is None and (state[2][-1][0], state[2][-1][2]) in named:
                    mark = named[state[2][-1][0], state[2][-1][2]]
                    told = places_at(program, "main", mark)
                    met += 1
                    for name, _, row, _ in state[2]:
                        self.assertIn((name, row), told)
                    if met % 7 == 0:
                        self.assertTrue(is_chain(program, "main", mark, state[2][-1][:3:2],
                                                 tuple(frame[:3:2] for frame in state[2])))
                state = stepped(program, state)
        self.assertGreater(met, 100)


class Chains(unittest.TestCase):
    def test_one_way_alone(self):
        for start, mark, place, chain in [
                ("main", "top", ("main", 0), (("main", 0),)),
                ("leaf", "low", ("leaf", 0), (("leaf", 0),)),
                ("alone", "low", ("alone", 0), (("alone", 0), ("leaf", 0))),
                ("alone", "low", ("leaf", 0), (("alone", 0), ("leaf", 0))),
                ("main", "within", ("main", 1), (("main", 1), ("mid", 3)))]:
            self.assertTrue(alike(chain_to(WHOLE, start, mark, place), chain))

    def test_to_each_place_there_is_one(self):
        for program in [WHOLE] + made_programs(60):
            for mark in marks_of(program):
                for start in program[2]:
                    for place in places_at(program, start, mark):
                        chain = chain_to(program, start, mark, place)
                        self.assertTrue(is_chain(program, start, mark, place, chain), (start, mark, place, chain))

    def test_round_loops_of_calls(self):
        for start in ("main", "mid", "round"):
            for mark in ("low", "within"):
                for place in places_at(WHOLE, start, mark):
                    self.assertTrue(is_chain(WHOLE, start, mark, place, chain_to(WHOLE, start, mark, place)))

    def test_a_call_of_itself_in_the_marks_part(self):
        program = read_program("part p () number\n  call x p\n  mark m\n  back x\n")
        self.assertEqual(chain_to(program, "p", "m", ("p", 0)), (("p", 0), ("p", 1)))
        self.assertEqual(chain_to(program, "p", "m", ("p", 1)), (("p", 1),))


class Asked(unittest.TestCase):
    def test_asked_again_all_is_told_alike_and_nothing_changes(self):
        program = copy.deepcopy(WHOLE)
        for mark in marks_of(WHOLE):
            for start in WHOLE[2]:
                first, second = places_at(program, start, mark), places_at(program, start, mark)
                self.assertTrue(alike(first, second))
                for place in first:
                    self.assertTrue(alike(chain_to(program, start, mark, place),
                                          chain_to(program, start, mark, place)))
        self.assertTrue(alike(program, WHOLE))
        self.assertEqual(list(program[2]), list(WHOLE[2]))


if __name__ == "__main__":
    unittest.main()
