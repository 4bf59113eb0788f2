"""Places at marks: who is where when a mark is met, and by which calls."""

from changewhile.papers import papers_of
from changewhile.programs import marks_of


class Ways:
    """Which parts of a right program call which: the open calls, and what they lead to."""

    def __init__(self, program):
        parts = program[2]
        self.papers = papers_of(program)
        # By parts' names, lists of pairs: the place of an open call, the part that it names.
        self.calls = {name: [((name, r), row[2]) for r, row in enumerate(parts[name][2])
                             if row[0] == "call" and self.papers[name][r] is not None]
                      for name in parts}
        self.from_part = {name: self._ways_from(name) for name in parts}

    def _ways_from(self, start):
        """A dict from the parts that a part's calls lead to, itself too, to tuples of the places on the way."""
        ways = {start: ()}
        todo = [start]
        while todo:
            name = todo.pop()
            for place, callee in self.calls[name]:
                if callee not in ways:
                    ways[callee] = (*ways[name], place)
                    todo.append(callee)
        return ways

    def places(self, start, at_mark):
        """The places at a mark, which stands at one itself, from a start, sorted."""
        name, row = at_mark
        called = self.from_part.get(start, {})
        if self.papers[name][row] is None or name not in called:
            return ()
        places = [at_mark]
        for caller in called:
            places.extend([place for place, callee in self.calls[caller] if name in self.from_part[callee]])
        return tuple(sorted(places))

    def chain(self, start, at_mark, place):
        """A chain of places from a start to a mark, with one of the places at it among them."""
        chain = [*self.from_part[start][place[0]], place]
        if place != at_mark:
            callee = dict(self.calls[place[0]])[place]
            chain.extend([*self.from_part[callee][at_mark[0]], at_mark])
        return tuple(chain)


def places_at(program, start, mark):
    """The places at a mark from a start, sorted."""
    return Ways(program).places(start, marks_of(program)[mark])


def chain_to(program, start, mark, place):
    """A chain of places from a start to a mark, with one of the places at it among them."""
    return Ways(program).chain(start, marks_of(program)[mark], place)
