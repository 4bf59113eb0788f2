"""Places at marks: who is where when a mark is met, and by which calls."""

from changewhile.papers import papers_of
from changewhile.programs import marks_of


def places_at(program, start, mark):
    """The places at a mark from a start, sorted."""
    papers = papers_of(program)
    calls = _open_calls(program, papers)
    name, row = marks_of(program)[mark]
    called = _ways_from(calls, start)
    if papers[name][row] is None or name not in called:
        return ()
    found = [(name, row)]
    for caller in called:
        found.extend([place for place, callee in calls[caller] if name in _ways_from(calls, callee)])
    return tuple(sorted(found))


def chain_to(program, start, mark, place):
    """A chain of places from a start to a mark, with one of the places at it among them."""
    calls = _open_calls(program, papers_of(program))
    at_mark = marks_of(program)[mark]
    chain = [*_ways_from(calls, start)[place[0]], place]
    if place != at_mark:
        callee = dict(calls[place[0]])[place]
        chain.extend([*_ways_from(calls, callee)[at_mark[0]], at_mark])
    return tuple(chain)


def _open_calls(program, papers):
    """A dict from the parts' names to lists of pairs: the place of an open call, the part it names."""
    parts = program[2]
    return {name: [((name, r), row[2]) for r, row in enumerate(parts[name][2])
                   if row[0] == "call" and papers[name][r] is not None]
            for name in parts}


def _ways_from(calls, start):
    """A dict from the parts that calls lead to from a start to tuples of places, one behind the other, on the way."""
    ways = {start: ()}
    todo = [start]
    while todo:
        name = todo.pop()
        for place, callee in calls[name]:
            if callee not in ways:
                ways[callee] = (*ways[name], place)
                todo.append(callee)
    return ways
