"""Tuples of pairs (NAME, something): fields, takes and their like."""

from changewhile.kinds import is_name


def are_named(thing):
    """Whether a thing is a tuple of pairs, each with a NAME first, whatever is second."""
    return isinstance(thing, tuple) and all([_is_named_pair(pair) for pair in thing])


def _is_named_pair(thing):
    return isinstance(thing, tuple) and len(thing) == 2 and is_name(thing[0])


def are_rising(pairs):
    """Whether the names of pairs are sorted and unlike one another."""
    return all([pairs[k - 1][0] < pairs[k][0] for k in range(1, len(pairs))])


def are_unlike(names):
    """Whether no name stands twice in a list."""
    return len(set(names)) == len(names)
