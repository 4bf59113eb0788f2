"""Values: numbers, truths, tuples and refs, and the texts of plain ones."""

from changewhile.errors import NoText
from changewhile.reading import is_figures, read_figures, side_by_side

NUMBERS = 10 ** 12
LONGEST_TUPLE = 60


def is_number(thing):
    """Whether a thing is a NUMBER."""
    return isinstance(thing, int) and not isinstance(thing, bool) and 0 <= thing < NUMBERS


def is_ref(thing):
    """Whether a thing is a REF."""
    return isinstance(thing, str) and thing.startswith("r") and is_figures(thing[1:])


def is_value(thing):
    """Whether a thing is a VALUE."""
    return all([_is_plain_leaf(leaf) or is_ref(leaf) for leaf in _leaves(thing)])


def is_plain(thing):
    """Whether a thing is a value without a ref in it."""
    return all([_is_plain_leaf(leaf) for leaf in _leaves(thing)])


def _is_plain_leaf(thing):
    return isinstance(thing, bool) or is_number(thing)


def _leaves(thing):
    """All that is within a thing and no tuple of values; a tuple that is too long is one of these."""
    # A list of what is still to do, as things handed in may be too deep to call oneself for each.
    found = []
    todo = [thing]
    while todo:
        one = todo.pop()
        if isinstance(one, tuple) and len(one) <= LONGEST_TUPLE:
            todo.extend(one)
        else:
            found.append(one)
    return found


def sort_of(value):
    """The sort of a value: what the kinds begin with that it may be of."""
    if isinstance(value, bool):
        return "truth"
    if isinstance(value, int):
        return "number"
    if isinstance(value, tuple):
        return "list"
    return "record"


def is_of(kind, value, records):
    """Whether a value is of a kind, by records."""
    todo = [(kind, value)]
    while todo:
        wanted, one = todo.pop()
        if wanted[0] != "list":
            if not _is_of_bare(wanted, one, records):
                return False
        elif isinstance(one, tuple):
            todo.extend([(wanted[1], part) for part in one])
        else:
            return False
    return True


def _is_of_bare(kind, value, records):
    if kind[0] == "number":
        return is_number(value)
    if kind[0] == "truth":
        return isinstance(value, bool)
    return isinstance(value, str) and value in records and records[value][0] == kind[1]


def alike_values(one, other):
    """Whether two values are alike: equal, and of one sort at each place."""
    todo = [(one, other)]
    while todo:
        first, second = todo.pop()
        if isinstance(first, tuple) and isinstance(second, tuple):
            if len(first) != len(second):
                return False
            todo.extend([(first[k], second[k]) for k in range(len(first))])
        elif isinstance(first, bool) != isinstance(second, bool) or first != second:
            return False
    return True


def value_text(value):
    """The text of a plain value."""
    pieces = []
    todo = [value]
    while todo:
        one = todo.pop()
        if isinstance(one, str):
            # No text is a plain value, so this is a bracket or a comma from below.
            pieces.append(one)
        elif isinstance(one, tuple):
            todo.extend(_spread(one)[::-1])
        else:
            pieces.append(_leaf_text(one))
    return "".join(pieces)


def _spread(values):
    """A tuple's values with the brackets and commas of its text around them."""
    spread = ["["]
    for k, value in enumerate(values):
        if k > 0:
            spread.append(", ")
        spread.append(value)
    spread.append("]")
    return spread


def _leaf_text(value):
    if isinstance(value, bool):
        return "yes" if value else "no"
    return str(value)


def read_value(text):
    """The plain value of a text; else NoText, of anything."""
    if not isinstance(text, str):
        raise NoText("not a text")
    pieces = side_by_side(text.replace(",", " "), "[", "]", _tuple_of)
    if len(pieces) != 1:
        raise NoText("not one value")
    value = _value_of(pieces[0])
    if not is_plain(value) or value_text(value) != text:
        raise NoText("not the text of a plain value")
    return value


def _tuple_of(pieces):
    return tuple([_value_of(piece) for piece in pieces])


def _value_of(piece):
    """The value of a word, or a tuple that stood in brackets and is one already."""
    if isinstance(piece, tuple):
        return piece
    if piece in ("yes", "no"):
        return piece == "yes"
    return read_figures(piece)
