"""What terms are worth."""

from changewhile.errors import Stuck
from changewhile.terms import SORTS, folded
from changewhile.values import LONGEST_TUPLE, NUMBERS, alike_values, sort_of


def worth(term, held, boxes, records):
    """The worth of a term by held names, boxes and records; else Stuck."""
    return worth_by(term, held, lambda box: found(boxes, box), lambda ref: found(records, ref))


def worth_by(term, held, box_of, record_of):
    """The same, where box_of tells a box's value and record_of what a ref is; else Stuck."""
    return folded(term, lambda one, values: _worth_over(one, values, held, box_of, record_of))


def _worth_over(term, values, held, box_of, record_of):
    """The worth of a term, the terms right within it being worth such values."""
    word = term[0]
    if not all([sort in ("", sort_of(value)) for sort, value in zip(SORTS.get(word, ()), values)]):
        raise Stuck("", -1)
    if word in ("number", "truth"):
        return term[1]
    if word == "empty":
        return ()
    if word == "name":
        return found(held, term[1])
    if word == "box":
        return box_of(term[1])
    if word == "field":
        _, pairs = record_of(values[0])
        return found(dict(pairs), term[2])
    return _reckoned(word, values)


def found(things, key):
    """What a dict has for a key; else Stuck."""
    if key not in things:
        raise Stuck("", -1)
    return things[key]


def _reckoned(word, values):
    """What a word makes of values that are of the sorts that it wants."""
    if word == "add":
        return (values[0] + values[1]) % NUMBERS
    if word == "less":
        return (values[0] - values[1]) % NUMBERS
    if word == "times":
        return (values[0] * values[1]) % NUMBERS
    if word == "under":
        return values[0] < values[1]
    if word == "same":
        return alike_values(values[0], values[1])
    if word == "both":
        return values[0] and values[1]
    if word == "join":
        return (values[0] + values[1])[:LONGEST_TUPLE]
    if word == "not":
        return not values[0]
    if word == "many":
        return len(values[0])
    if word == "pick":
        return values[1] if values[0] else values[2]
    if word == "at":
        return values[0][values[1]] if values[1] < len(values[0]) else values[2]
    return tuple(values)
