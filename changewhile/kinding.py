"""The kinds of terms, and whether rows are right, where such things are held."""

from changewhile.kinds import NUMBER, TRUTH, names_in
from changewhile.terms import SORTS, folded


def is_there(kind, program):
    """Whether a kind is there in a program."""
    return all([name in program[0] for name in names_in(kind)])


def kind_of(term, holding, program):
    """The kind of a term in a holding and a program, or None."""
    held = dict(holding)
    return folded(term, lambda one, kinds: _kind_over(one, kinds, held, program))


def _kind_over(term, kinds, held, program):
    """The kind of a term, the terms right within it having such kinds, or None."""
    if None in kinds or not _are_matching(term[0], kinds):
        return None
    kind = _kind_by_word(term, kinds, held, program)
    if kind is None or not is_there(kind, program):
        return None
    return kind


def _are_matching(word, kinds):
    """Whether kinds of parts are of the sorts that a word wants, and alike where it wants that."""
    if not all([sort in ("", kind[0]) for sort, kind in zip(SORTS.get(word, ()), kinds)]):
        return False
    if word == "pick":
        return kinds[1] == kinds[2]
    if word == "at":
        return kinds[0][1] == kinds[2]
    if word in ("same", "join", "list"):
        return all([kind == kinds[0] for kind in kinds])
    return True


def _kind_by_word(term, kinds, held, program):
    """The kind of a term whose parts' kinds match, or None; perhaps one that is not there."""
    word = term[0]
    if word in ("number", "add", "less", "times", "many"):
        return NUMBER
    if word in ("truth", "under", "same", "both", "not"):
        return TRUTH
    if word == "name":
        return held.get(term[1])
    if word == "box":
        return _box_kind(term[1], program)
    if word == "empty":
        return ("list", term[1])
    if word == "list":
        return ("list", kinds[0])
    if word == "field":
        return _field_kind(kinds[0], term[2], program)
    return kinds[-1]


def _box_kind(box, program):
    """The kind of a box, or None where there is no such box."""
    if box not in program[1]:
        return None
    return program[1][box][0]


def _field_kind(kind, field, program):
    """The kind of a field of records of a kind that is there; None of any other kind or field."""
    if kind is None or kind[0] != "record":
        return None
    return dict(program[0][kind[1]]).get(field)


def is_right(row, holding, program, part):
    """Whether a row of a part is right in a holding and a program."""
    word = row[0]
    if word in ("mark", "go"):
        return True
    if word == "let":
        return kind_of(row[2], holding, program) is not None
    if word == "set":
        record = kind_of(row[1], holding, program)
        return _is_of_kind(row[3], _field_kind(record, row[2], program), holding, program)
    if word == "new":
        return _is_new_right(row, holding, program)
    if word == "call":
        return _is_call_right(row, holding, program)
    if word == "put":
        return _is_of_kind(row[2], _box_kind(row[1], program), holding, program)
    if word == "tell":
        return _is_of_kind(row[1], NUMBER, holding, program)
    if word == "unless":
        return _is_of_kind(row[1], TRUTH, holding, program)
    return _is_of_kind(row[1], part[1], holding, program)


def _is_of_kind(term, kind, holding, program):
    """Whether a term has a kind; none has None."""
    return kind is not None and kind_of(term, holding, program) == kind


def _is_new_right(row, holding, program):
    if row[2] not in program[0]:
        return False
    own = program[0][row[2]]
    if [field for field, _ in row[3]] != [field for field, _ in own]:
        return False
    return _are_of_kinds([term for _, term in row[3]], [kind for _, kind in own], holding, program)


def _is_call_right(row, holding, program):
    if row[2] not in program[2]:
        return False
    kinds = [kind for _, kind in program[2][row[2]][0]]
    return _are_of_kinds(row[3], kinds, holding, program)


def _are_of_kinds(terms, kinds, holding, program):
    """Whether terms are as many as kinds, each of its kind."""
    if len(terms) != len(kinds):
        return False
    return all([_is_of_kind(term, kind, holding, program) for term, kind in zip(terms, kinds)])


def leaves(row, holding, program):
    """The holding that a row leaves."""
    if row[0] not in ("let", "new", "call"):
        return holding
    left = [pair for pair in holding if pair[0] != row[1]]
    kind = _kind_given(row, holding, program)
    if kind is not None:
        left.append((row[1], kind))
    return tuple(sorted(left))


def _kind_given(row, holding, program):
    """The kind of what a let, a new or a call gives to its name, or None."""
    if row[0] == "let":
        return kind_of(row[2], holding, program)
    if row[0] == "new":
        return ("record", row[2]) if row[2] in program[0] else None
    return program[2][row[2]][1] if row[2] in program[2] else None
