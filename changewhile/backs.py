"""Changes back, and changes that are apart."""

from changewhile.changes import changed
from changewhile.errors import Stuck
from changewhile.leading import led
from changewhile.values import alike_values


def back_of(program, change, kindleads, boxleads):
    """The change back of a change of a program, with leads told for it."""
    outs, *put = change[:4]
    gone = [name for old, anew in zip(program, put) for name in anew if name not in old]
    back = [{name: old[name] for name in old if name in anew or name in outs} for old, anew in zip(program, put)]
    return (tuple(sorted(gone)), *back, dict(kindleads), dict(boxleads))


def undoes(program, change, back, state):
    """Whether a change back undoes at a state what a change of a program does."""
    try:
        there = led(program, change, state)
        here = led(changed(program, change), back, there)
    except Stuck:
        return False
    return _are_alike(state[0], here[0]) and _are_records_alike(state[1], here[1])


def _are_alike(one, other):
    """Whether two dicts have the same keys and alike values."""
    return sorted(one) == sorted(other) and all([alike_values(one[key], other[key]) for key in one])


def _are_records_alike(one, other):
    if sorted(one) != sorted(other):
        return False
    return all([one[ref][0] == other[ref][0] and _are_alike(dict(one[ref][1]), dict(other[ref][1])) for ref in one])


def apart(one, other):
    """Whether no name that a change takes out or puts is one that another takes out or puts."""
    names = _names_of(other)
    return not any([name in names for name in _names_of(one)])


def _names_of(change):
    """A list of the names that a change takes out or puts."""
    outs, kinds, boxes, parts = change[:4]
    return [*outs, *kinds, *boxes, *parts]
