"""Rows: what a part does, one behind the other, and their texts."""

from changewhile.errors import NoText
from changewhile.kinds import is_name
from changewhile.pairs import are_named, are_rising
from changewhile.reading import read_figures
from changewhile.terms import is_term, read_pieces, term_of, term_text

# What stands behind each word. "terms" and "fields" are tuples, and stand last.
FORMS = {
    "let": ("name", "term"),
    "put": ("name", "term"),
    "set": ("term", "name", "term"),
    "new": ("name", "name", "fields"),
    "call": ("name", "name", "terms"),
    "tell": ("term",),
    "mark": ("name",),
    "go": ("count",),
    "unless": ("term", "count"),
    "back": ("term",),
}


def is_row(thing):
    """Whether a thing is a ROW."""
    if not isinstance(thing, tuple) or not thing:
        return False
    if not isinstance(thing[0], str) or thing[0] not in FORMS:
        return False
    form = FORMS[thing[0]]
    if len(thing) != 1 + len(form):
        return False
    return all([_fits(slot, part) for slot, part in zip(form, thing[1:])])


def _fits(slot, thing):
    if slot == "name":
        return is_name(thing)
    if slot == "term":
        return is_term(thing)
    if slot == "count":
        return is_count(thing)
    if slot == "terms":
        return isinstance(thing, tuple) and all([is_term(term) for term in thing])
    return are_named(thing) and are_rising(thing) and all([is_term(pair[1]) for pair in thing])


def is_count(thing):
    """Whether a thing is a whole number from 0 on."""
    return isinstance(thing, int) and not isinstance(thing, bool) and thing >= 0


def jumps_of(row):
    """The numbers of rows that a row names itself: of a go or an unless one, else none."""
    if row[0] == "go":
        return [row[1]]
    if row[0] == "unless":
        return [row[2]]
    return []


def next_rows(rows, r):
    """The numbers of the rows that are next to row r, rising, each once."""
    row = rows[r]
    if row[0] == "back":
        return []
    if row[0] == "go":
        return jumps_of(row)
    return sorted(set([r + 1] + jumps_of(row)))


def row_text(row):
    """The text of a row."""
    texts = [_part_text(slot, part) for slot, part in zip(FORMS[row[0]], row[1:])]
    return " ".join([row[0]] + [text for text in texts if text])


def _part_text(slot, part):
    """The text of what stands in a slot; of no terms and of no fields it is empty."""
    if slot == "name":
        return part
    if slot == "term":
        return term_text(part)
    if slot == "count":
        return str(part)
    if slot == "terms":
        return " ".join([term_text(term) for term in part])
    return fields_text(part)


def fields_text(fields):
    """The text of pairs of fields and terms."""
    return ", ".join([name + " " + term_text(term) for name, term in fields])


def read_row(text):
    """The row of a text; else NoText, of anything."""
    if not isinstance(text, str):
        raise NoText("not a text")
    row = _row_of(read_groups(text))
    if not is_row(row) or row_text(row) != text:
        raise NoText("not the text of a row")
    return row


def read_groups(text):
    """A list of the lists of pieces that stand between a text's commas."""
    # No text of a term has a comma: they part the fields of a new or of a lead, and nothing else.
    return [read_pieces(group) for group in text.split(",")]


def _row_of(groups):
    """The row, perhaps none, of the pieces between a text's commas."""
    pieces = groups[0]
    if not pieces or isinstance(pieces[0], tuple) or pieces[0] not in FORMS:
        raise NoText("no word that a row begins with")
    row = [pieces[0]]
    for k, slot in enumerate(FORMS[pieces[0]], start=1):
        if slot == "terms":
            row.append(tuple([term_of(piece) for piece in pieces[k:]]))
        elif slot == "fields":
            row.append(fields_of([pieces[k:]] + groups[1:]))
        elif k < len(pieces):
            row.append(_part_of(slot, pieces[k]))
    return tuple(row)


def fields_of(groups):
    """The pairs of fields and terms, perhaps none, of the pieces between commas."""
    return tuple([_field_of(group) for group in groups if group])


def _field_of(pieces):
    if len(pieces) != 2:
        raise NoText("not a field and its term")
    return (pieces[0], term_of(pieces[1]))


def _part_of(slot, piece):
    if slot == "term":
        return term_of(piece)
    if slot == "count":
        return read_figures(piece)
    return piece
