"""Terms: what a row reckons with, and their texts."""

from changewhile.errors import NoText
from changewhile.kinds import is_kind, is_name, kind_text, read_kind
from changewhile.reading import read_figures, side_by_side
from changewhile.values import is_number

# The sorts that the terms behind each word are to be of, "" for any: what words of kinds begin with.
SORTS = {
    "add": ("number", "number"),
    "less": ("number", "number"),
    "times": ("number", "number"),
    "under": ("number", "number"),
    "same": ("", ""),
    "both": ("truth", "truth"),
    "join": ("list", "list"),
    "not": ("truth",),
    "many": ("list",),
    "pick": ("truth", "", ""),
    "at": ("list", "number", ""),
    "field": ("record",),
}
LEAVES = ("number", "truth", "name", "box", "empty")
MOST_LISTED = 8


def is_term(thing):
    """Whether a thing is a TERM."""
    todo = [thing]
    while todo:
        one = todo.pop()
        if not _is_shaped(one):
            return False
        todo.extend(parts_of(one))
    return True


def _is_shaped(thing):
    """Whether a thing is a term, but for the terms right within it."""
    if not isinstance(thing, tuple) or len(thing) < 2 or not isinstance(thing[0], str):
        return False
    word = thing[0]
    if word in LEAVES:
        return len(thing) == 2 and _is_leaf_part(word, thing[1])
    if word == "field":
        return len(thing) == 3 and is_name(thing[2])
    if word == "list":
        return len(thing) <= 1 + MOST_LISTED
    return word in SORTS and len(thing) == 1 + len(SORTS[word])


def _is_leaf_part(word, part):
    if word == "number":
        return is_number(part)
    if word == "truth":
        return isinstance(part, bool)
    if word == "empty":
        return is_kind(part)
    return is_name(part)


def parts_of(term):
    """The terms right within a term, in their order."""
    if term[0] in LEAVES:
        return []
    if term[0] == "field":
        return [term[1]]
    return list(term[1:])


def folded(term, told):
    """What told makes of a term and of the list of what it made of the terms right within it."""
    # A list of what is still to do, as terms may be too deep to call oneself for each.
    done = []
    todo = [(term, False)]
    while todo:
        one, are_parts_done = todo.pop()
        parts = parts_of(one)
        if parts and not are_parts_done:
            todo.append((one, True))
            todo.extend([(part, False) for part in parts[::-1]])
        else:
            ahead = len(done) - len(parts)
            made = done[ahead:]
            del done[ahead:]
            done.append(told(one, made))
    return done[0]


def names_within(term):
    """A list of the names that a term has, each once."""
    found = []
    todo = [term]
    while todo:
        one = todo.pop()
        if one[0] == "name" and one[1] not in found:
            found.append(one[1])
        todo.extend(parts_of(one))
    return found


def with_names(term, terms):
    """The term with each name in a dict exchanged for its term there, all at once."""
    return folded(term, lambda one, parts: with_parts(one, parts) if parts else _exchanged(one, terms))


def _exchanged(leaf, terms):
    if leaf[0] == "name" and leaf[1] in terms:
        return terms[leaf[1]]
    return leaf


def with_parts(term, parts):
    """The term with other terms right within it."""
    if term[0] == "field":
        return ("field", parts[0], term[2])
    return (term[0], *parts)


def term_text(term):
    """The text of a term."""
    pieces = []
    todo = [term]
    while todo:
        one = todo.pop()
        if isinstance(one, str):
            pieces.append(one)
        elif one[0] in LEAVES:
            pieces.append(_leaf_text(one[0], one[1]))
        else:
            todo.extend(_spread(one)[::-1])
    return "".join(pieces)


def _leaf_text(word, part):
    if word == "number":
        return str(part)
    if word == "truth":
        return "yes" if part else "no"
    if word == "box":
        return "#" + part
    if word == "empty":
        return "(empty " + kind_text(part) + ")"
    return part


def _spread(term):
    """The terms right within a term, with what stands around them in its text."""
    spread = ["(" + term[0]]
    for part in parts_of(term):
        spread.append(" ")
        spread.append(part)
    if term[0] == "field":
        spread.append(" " + term[2])
    spread.append(")")
    return spread


def read_term(text):
    """The term of a text; else NoText, of anything."""
    if not isinstance(text, str):
        raise NoText("not a text")
    pieces = read_pieces(text)
    if len(pieces) != 1:
        raise NoText("not one term")
    term = term_of(pieces[0])
    if not is_term(term) or term_text(term) != text:
        raise NoText("not the text of a term")
    return term


def read_pieces(text):
    """The pieces that stand side by side in a text: words, and terms that stood in brackets.

    What comes is perhaps no term, and the text perhaps not its text: the caller is to look.
    """
    return side_by_side(text, "(", ")", _closed)


def _closed(pieces):
    """The term, perhaps none, of the pieces between brackets."""
    if len(pieces) == 2 and pieces[0] == "empty":
        return ("empty", read_kind(pieces[1]))
    if len(pieces) == 3 and pieces[0] == "field":
        return ("field", term_of(pieces[1]), pieces[2])
    return tuple(pieces[:1] + [term_of(piece) for piece in pieces[1:]])


def term_of(piece):
    """The term, perhaps none, of a piece."""
    if isinstance(piece, tuple):
        return piece
    if piece in ("yes", "no"):
        return ("truth", piece == "yes")
    if piece.startswith("#"):
        return ("box", piece[1:])
    if piece.isdigit():
        return ("number", read_figures(piece))
    return ("name", piece)
