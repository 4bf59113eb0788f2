"""The search for a pairing of a program and a change of it."""

from changewhile.beside import Beside
from changewhile.freeing import likely_frees
from changewhile.laying import Laying
from changewhile.pairings import reads_pairing
from changewhile.sides import Sides
from changewhile.wanting import Wanting


def find_pairing(program, change):
    """A pairing of a right program and a change, that is read, with as many parts as are found; or None."""
    sides = Sides(program, change)
    found = None
    for free in likely_frees(sides):
        parts = _most_parts(sides, sides.turning_by(free))
        if found is None or len(parts) > len(found[1]):
            found = (free, parts)
        if len(found[1]) == len(sides.names):
            break
    if not found[1] and program[2] or not reads_pairing(program, change, found):
        return None
    return found


def _most_parts(sides, turning):
    """A dict from the names of the parts that can be paired to their takes' pairs and entries."""
    kept = _paired_parts(sides, turning, False)
    if len(kept) == len(sides.names):
        return kept
    # Fewer takes may do for more parts; but no part is to be lost by what others hand over to it.
    other = _paired_parts(sides, turning, True)
    return other if all([name in other for name in kept]) else kept


def _paired_parts(sides, turning, may_lose_takes):
    """The same, where either all takes stay paired, or those that do not hold at some call are left out."""
    left = list(sides.names)
    takes = _likely_takes(turning, left)
    while True:
        layings = _layings(sides, turning, takes, left)
        wrong = [layings[name].wrong_takes for name in left if layings[name].wrong_takes is not None]
        kept = [name for name in left if layings[name].entries is not None
                or may_lose_takes and layings[name].wrong_takes is not None]
        if len(kept) < len(left):
            left = kept
            takes = _likely_takes(turning, left)
        elif wrong:
            for name, pairs in wrong:
                takes[name] = tuple([pair for pair in takes[name] if pair not in pairs])
        else:
            return {name: (takes[name], layings[name].entries) for name in left}


def _layings(sides, turning, takes, names):
    """A dict from the names of parts to their layings."""
    wanting = Wanting(turning, takes)
    layings = {}
    for name in names:
        old, new = sides.ahead[2][name], sides.behind[2][name]
        beside = Beside(turning, takes, (old[2], sides.old_papers[name]), (new[2], sides.new_papers[name]))
        layings[name] = Laying(beside, wanting, takes[name])
    return layings


def _likely_takes(turning, names):
    """A dict from the names of parts to the pairs of their takes: by their order, or by what they are called."""
    return {name: _takes_beside(turning.ahead[2][name][0], turning.behind[2][name][0]) for name in names}


def _takes_beside(old, new):
    if len(old) == len(new):
        pairs = [(new[k][0], ("name", old[k][0])) for k in range(len(new)) if new[k][1] == old[k][1]]
    else:
        pairs = [(take, ("name", take)) for take, kind in new if (take, kind) in old]
    return tuple(sorted(pairs))
