"""Names and kinds, and the texts of kinds."""

from changewhile.errors import NoText
from changewhile.reading import DEEPEST

NUMBER = ("number",)
TRUTH = ("truth",)

KEPT_WORDS = ("number", "truth", "yes", "no")
LONGEST_NAME = 8


def is_name(thing):
    """Whether a thing is a NAME."""
    if not isinstance(thing, str) or not 1 <= len(thing) <= LONGEST_NAME:
        return False
    return thing.isascii() and thing.isalpha() and thing.islower() and thing not in KEPT_WORDS


def is_kind(thing):
    """Whether a thing is a KIND."""
    while _is_pair(thing, "list"):
        thing = thing[1]
    if _is_pair(thing, "record"):
        return is_name(thing[1])
    if not isinstance(thing, tuple) or len(thing) != 1:
        return False
    return isinstance(thing[0], str) and thing[0] in ("number", "truth")


def _is_pair(thing, word):
    if not isinstance(thing, tuple) or len(thing) != 2:
        return False
    return isinstance(thing[0], str) and thing[0] == word


def kind_text(kind):
    """The text of a kind."""
    depth = 0
    while kind[0] == "list":
        kind = kind[1]
        depth += 1
    return "[" * depth + kind[-1] + "]" * depth


def read_kind(text):
    """The kind of a text; else NoText, of anything."""
    if not isinstance(text, str):
        raise NoText("not a text")
    depth = len(text) - len(text.lstrip("["))
    if depth > DEEPEST:
        raise NoText("brackets too deep within one another")
    kind = _bare_kind(text.strip("[]"))
    for _ in range(depth):
        kind = ("list", kind)
    if not is_kind(kind) or kind_text(kind) != text:
        raise NoText("not the text of a kind")
    return kind


def _bare_kind(word):
    if word in ("number", "truth"):
        return (word,)
    return ("record", word)


def names_in(kind):
    """The record names in a kind, sorted."""
    while kind[0] == "list":
        kind = kind[1]
    if kind[0] == "record":
        return [kind[1]]
    return []
