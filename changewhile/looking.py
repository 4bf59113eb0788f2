"""The looker: at which marks a change may come in; and the small reader of its papers."""

from changewhile.changes import changed
from changewhile.papers import papers_of, reads
from changewhile.places import Ways, places_at
from changewhile.programs import marks_of
from changewhile.rests import beginning, rest_of


def look(program, start, change):
    """A dict from the marks of a right program to what the looker tells; else NoFit, NoLead or NotRight."""
    behind = changed(program, change)
    ways = Ways(program)
    marks = marks_of(program)
    rests = {}
    told = {}
    for mark in marks:
        places = ways.places(start, marks[mark])
        for place in places:
            if place not in rests:
                rests[place] = _rest_at(program, ways.papers, behind, place)
        told[mark] = _answer(ways, start, marks[mark], places, rests)
    return told


def _rest_at(program, papers, behind, place):
    """The rest of a place behind a change: its paper, and its first wrong row or None."""
    name, r = place
    return rest_of(behind, program[2][name], r, _beginning_at(program, papers, place))


def _beginning_at(program, papers, place):
    """What the rest of a place begins with."""
    name, r = place
    row = program[2][name][2][r]
    given = program[2][row[2]][1] if row[0] == "call" else None
    return beginning(row, papers[name][r], given)


def _answer(ways, start, at_mark, places, rests):
    """What the looker tells of a mark with such places, by the rests of these."""
    for place in places:
        wrong = rests[place][1]
        if wrong is not None:
            return ("not", place, wrong, ways.chain(start, at_mark, place))
    return ("in", {place: rests[place][0] for place in places})


def reads_entry(program, start, change, mark, papers):
    """Whether the papers of a mark, a dict with anything in it, are read."""
    places = places_at(program, start, mark)
    if len(papers) != len(places) or not all([_is_place(place) for place in papers]):
        return False
    if not all([place in papers for place in places]):
        return False
    behind = changed(program, change)
    ahead = papers_of(program)
    return all([_is_read_at(program, ahead, behind, place, papers[place]) for place in places])


def _is_place(thing):
    """Whether a thing is a pair of a text and a whole number."""
    if not isinstance(thing, tuple) or len(thing) != 2:
        return False
    return isinstance(thing[0], str) and isinstance(thing[1], int) and not isinstance(thing[1], bool)


def _is_read_at(program, ahead, behind, place, paper):
    """Whether a thing is a paper, read behind the change, that begins with no more than the rest of a place."""
    name, r = place
    if not reads(behind, program[2][name], paper) or paper[r + 1] is None:
        return False
    begun = _beginning_at(program, ahead, place)
    return all([pair in begun for pair in paper[r + 1]])
