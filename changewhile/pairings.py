"""Pairings: what shows that the run behind a change says the words of the run without it."""

from changewhile.beside import Beside
from changewhile.changes import changed, is_lead
from changewhile.pairs import are_named
from changewhile.papers import own_papers
from changewhile.rows import is_count
from changewhile.terms import names_within
from changewhile.turning import Turning


def reads_pairing(program, change, pairing):
    """Whether a pairing of a right program and a change is read."""
    behind = changed(program, change)
    if not _is_pairing(program, behind, pairing):
        return False
    free, parts = pairing
    turning = Turning(program, behind, change, free)
    takes = {name: parts[name][0] for name in parts}
    old, new = own_papers(program), own_papers(behind)
    for name in parts:
        beside = Beside(turning, takes, (program[2][name][2], old[name]), (behind[2][name][2], new[name]))
        if program[2][name][1] != behind[2][name][1] or not _are_entries_read(beside, takes[name], parts[name][1]):
            return False
    return True


def _is_pairing(program, behind, thing):
    """Whether a thing is a pairing of a program and the one behind a change, in whatever order its pairs stand."""
    if not isinstance(thing, tuple) or len(thing) != 2 or not isinstance(thing[0], tuple):
        return False
    free, parts = thing
    if not all([_is_free(behind, one) for one in free]) or not isinstance(parts, dict):
        return False
    if not all([isinstance(name, str) and name in program[2] and name in behind[2] for name in parts]):
        return False
    return all([_is_paired_part(program[2][name], behind[2][name], parts[name]) for name in parts])


def _is_free(behind, thing):
    """Whether a thing is a box of a program, or a pair of a kind and a field of it."""
    if isinstance(thing, str):
        return thing in behind[1]
    if not isinstance(thing, tuple) or len(thing) != 2 or not all([isinstance(one, str) for one in thing]):
        return False
    kind, field = thing
    return kind in behind[0] and field in dict(behind[0][kind])


def _is_paired_part(old, new, thing):
    if not isinstance(thing, tuple) or len(thing) != 2 or not isinstance(thing[1], tuple):
        return False
    takes, entries = thing
    if not _are_names(takes) or not all([take in dict(new[0]) for take, _ in takes]):
        return False
    if not all([name in dict(old[0]) for _, term in takes for name in names_within(term)]):
        return False
    return all([_is_entry(len(old[2]), len(new[2]), entry) for entry in entries])


def _is_entry(old_many, new_many, thing):
    if not isinstance(thing, tuple) or len(thing) != 4 or not all([is_count(one) for one in thing[:3]]):
        return False
    return thing[0] < old_many and thing[1] < new_many and _are_names(thing[3])


def _are_names(thing):
    """Whether a thing is a tuple of pairs of a name and a term without boxes and fields."""
    return are_named(thing) and all([is_lead(pair[1]) for pair in thing])


def _are_entries_read(beside, takes, entries):
    """Whether the entries of a part begin with its takes, and each goes on."""
    found = {}
    for r, s, rank, names in entries:
        if (r, s) not in found:
            found[(r, s)] = []
        found[(r, s)].append((rank, names))
    if not any([_are_among(names, takes) for _, names in found.get((0, 0), [])]):
        return False
    return all([_does_go_on(beside, found, entry) for entry in entries])


def _does_go_on(beside, found, entry):
    """Whether an entry goes on: by both rows, or by one alone with a lesser rank."""
    r, s, rank, names = entry
    if _is_told(found, beside.both(r, s, names), None):
        return True
    return _is_told(found, beside.new_alone(r, s, names), rank) or _is_told(found, beside.old_alone(r, s, names), rank)


def _is_told(found, ways, below):
    """Whether there are entries at all rows that come next, of lesser ranks where one is told."""
    if ways is None:
        return False
    places, names = ways
    return all([any([_are_among(told, names) for rank, told in found.get(place, []) if below is None or rank < below])
                for place in places])


def _are_among(one, other):
    """Whether all pairs of one are among those of another."""
    return all([pair in other for pair in one])


def stays_paired(program, change, pairing, part, own, rest):
    """Whether the rest of a frame, with its own paper and the rest's, stays paired."""
    free, parts = pairing
    turning = Turning(program, changed(program, change), change, free)
    takes = {name: parts[name][0] for name in parts}
    beside = Beside(turning, takes, (part[2], own), (part[2], rest))
    for r, holding in enumerate(rest):
        if holding is not None:
            ways = beside.both(r, r, _same_names(own, rest, r))
            if ways is None or not all([_are_among(_same_names(own, rest, n), ways[1]) for n, _ in ways[0]]):
                return False
    return True


def _same_names(own, rest, r):
    """The pairs of each name, and itself, that both papers tell at a row."""
    if own[r] is None or rest[r] is None:
        return []
    told = dict(own[r])
    return [(name, ("name", name)) for name, _ in rest[r] if name in told]
