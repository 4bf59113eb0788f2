"""Parts and programs."""

from changewhile.kinds import is_kind, is_name
from changewhile.pairs import are_named, are_rising, are_unlike
from changewhile.rows import is_row, jumps_of
from changewhile.values import is_plain


def is_part(thing):
    """Whether a thing is a part of a program."""
    if not isinstance(thing, tuple) or len(thing) != 3:
        return False
    takes, gives, rows = thing
    return _are_takes(takes) and is_kind(gives) and _are_rows(rows)


def _are_takes(thing):
    if not are_named(thing) or not are_unlike([take[0] for take in thing]):
        return False
    return all([is_kind(take[1]) for take in thing])


def _are_rows(thing):
    """Whether a thing is the rows of a part: none leads out of them."""
    if not isinstance(thing, tuple) or not thing or not all([is_row(row) for row in thing]):
        return False
    if thing[-1][0] not in ("go", "back"):
        return False
    return all([jump < len(thing) for row in thing for jump in jumps_of(row)])


def is_program(thing):
    """Whether a thing is a program."""
    if not isinstance(thing, tuple) or len(thing) != 3:
        return False
    if not all([isinstance(things, dict) and _are_names(things) for things in thing]):
        return False
    kinds, boxes, parts = thing
    if not are_unlike(list(kinds) + list(boxes) + list(parts)):
        return False
    if not all([is_fields(kinds[name]) for name in kinds]):
        return False
    if not all([_is_box(boxes[name]) for name in boxes]):
        return False
    if not all([is_part(parts[name]) for name in parts]):
        return False
    return are_unlike([found[0] for found in marks_in(parts)])


def _are_names(names):
    return all([is_name(name) for name in names])


def is_fields(thing):
    """Whether a thing is what a program tells of a record's kind: its fields with their kinds."""
    return are_named(thing) and are_rising(thing) and all([is_kind(pair[1]) for pair in thing])


def _is_box(thing):
    return isinstance(thing, tuple) and len(thing) == 2 and is_kind(thing[0]) and is_plain(thing[1])


def marks_in(parts):
    """A list of (mark's name, part's name, row's number) of a dict of parts, by sorted places."""
    found = []
    for name in sorted(parts):
        for r, row in enumerate(parts[name][2]):
            if row[0] == "mark":
                found.append((row[1], name, r))
    return found


def marks_of(program):
    """A dict from the names of a program's marks to their places."""
    return {mark: (name, r) for mark, name, r in marks_in(program[2])}
