"""Changes of programs: what they are, and the programs behind them."""

from changewhile.errors import NoFit, NoLead
from changewhile.kinding import kind_of
from changewhile.kinds import is_name
from changewhile.pairs import are_named, are_rising
from changewhile.papers import faults_of, own_papers, refuse_first
from changewhile.programs import is_program, marks_in
from changewhile.terms import is_term, parts_of

# The name by which a box's lead has its old value.
OLD_VALUE = "it"


def is_change(thing):
    """Whether a thing is a CHANGE."""
    if not isinstance(thing, tuple) or len(thing) != 6:
        return False
    outs, kinds, boxes, parts, kindleads, boxleads = thing
    if not _are_outs(outs) or not is_program((kinds, boxes, parts)):
        return False
    if not _is_by_names(kindleads) or not _is_by_names(boxleads):
        return False
    if not all([_are_kindleads(kindleads[name]) for name in kindleads]):
        return False
    return all([is_lead(boxleads[name]) for name in boxleads])


def _are_outs(thing):
    if not isinstance(thing, tuple) or not all([is_name(name) for name in thing]):
        return False
    return list(thing) == sorted(set(thing))


def _is_by_names(thing):
    return isinstance(thing, dict) and all([is_name(name) for name in thing])


def _are_kindleads(thing):
    """Whether a thing is what a change tells of the leads of a kind: its fields with their terms."""
    return are_named(thing) and are_rising(thing) and all([is_lead(pair[1]) for pair in thing])


def is_lead(thing):
    """Whether a thing is a term without boxes and fields."""
    if not is_term(thing):
        return False
    todo = [thing]
    while todo:
        one = todo.pop()
        if one[0] in ("box", "field"):
            return False
        todo.extend(parts_of(one))
    return True


def changed(program, change):
    """The program behind a change of a right program; else NoFit, NoLead or NotRight, in this order."""
    unfit = _unfit_names(program, change)
    if unfit:
        raise NoFit(min(unfit))
    lacking = _lacking_leads(program, change)
    if lacking:
        name, field = min(lacking)
        raise NoLead(name, field)
    behind = _behind(program, change)
    refuse_first(faults_of(behind, own_papers(behind)) + _wrong_leads(program, change, behind))
    return behind


def _behind(program, change):
    """The program behind a change, perhaps none."""
    kinds, boxes, parts = [_exchanged(things, change[0], anew) for things, anew in zip(program, change[1:4])]
    return (kinds, boxes, parts)


def _exchanged(things, outs, put):
    """A dict without the names that are out, and with what is put."""
    left = {name: things[name] for name in things if name not in outs}
    left.update(put)
    return left


def _unfit_names(program, change):
    """A list of the names at which a change does not fit a program."""
    outs, kinds, boxes, parts, kindleads, boxleads = change
    there = [name for things in program for name in things]
    put = [*kinds, *boxes, *parts]
    unfit = [name for name in outs if name not in there or name in put]
    for old, anew in zip(program, (kinds, boxes, parts)):
        unfit.extend([name for name in anew if name in there and name not in old])
    unfit.extend([name for name in kindleads if not _do_kindleads_fit(program, change, name)])
    unfit.extend([name for name in boxleads if name not in program[1] or name not in boxes])
    return unfit + _doubled_marks(_exchanged(program[2], outs, parts))


def _do_kindleads_fit(program, change, name):
    """Whether a name with leads is a kind put anew that has all their fields."""
    if name not in program[0] or name not in change[1]:
        return False
    fields = [field for field, _ in change[1][name]]
    return all([field in fields for field, _ in change[4][name]])


def _doubled_marks(parts):
    """A list of the names of marks that stand in more than one row of a dict of parts."""
    marks = [mark for mark, _, _ in marks_in(parts)]
    return [mark for k, mark in enumerate(marks) if mark in marks[:k]]


def _lacking_leads(program, change):
    """A list of pairs (name, field) of kinds and boxes put anew that need a lead and have none."""
    kinds, boxes, kindleads, boxleads = change[1], change[2], change[4], change[5]
    lacking = []
    for name in kinds:
        if name in program[0]:
            led = dict(kindleads.get(name, ()))
            lacking.extend([(name, pair[0]) for pair in kinds[name]
                            if pair[0] not in led and pair not in program[0][name]])
    for box in boxes:
        if box in program[1] and box not in boxleads and boxes[box][0] != program[1][box][0]:
            lacking.append((box, ""))
    return lacking


def _wrong_leads(program, change, behind):
    """A list of pairs (name, -1) of kinds and boxes with leads of another kind than they need."""
    kinds, boxes, kindleads, boxleads = change[1], change[2], change[4], change[5]
    wrong = []
    # What was of a kind that is not there any more has none behind, so a lead has none that names it.
    for name in kindleads:
        wanted = dict(kinds[name])
        wrong.extend([(name, -1) for field, lead in kindleads[name]
                      if kind_of(lead, program[0][name], behind) != wanted[field]])
    for box in boxleads:
        if kind_of(boxleads[box], ((OLD_VALUE, program[1][box][0]),), behind) != boxes[box][0]:
            wrong.append((box, -1))
    return wrong
