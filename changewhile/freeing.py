"""Which boxes and fields may be free, so that nothing of the old program is paired to them."""

from changewhile.kinding import kind_of
from changewhile.papers import own_papers
from changewhile.terms import parts_of
from changewhile.turning import Turning
from changewhile.wanting import Wanting


def likely_frees(program, behind, change):
    """A list of what may be free, in the order in which it is tried: tuples of boxes and pairs (kind, field)."""
    boxes = [box for box in behind[1] if box not in program[1]]
    fields = _shared_fields(program, behind)
    leads = {(kind, field): lead for kind in change[4] for field, lead in change[4][kind]}
    led = [one for one in fields if one in leads and leads[one][0] != "name"]
    written = Written(program, behind, change, fields)
    return [_in_order(boxes, led), _in_order(boxes, []), written.left_free()]


def _shared_fields(program, behind):
    """A list of the pairs (kind, field) of the new program whose kinds were there ahead."""
    return [(kind, field) for kind in behind[0] if kind in program[0] for field, _ in behind[0][kind]]


def _in_order(boxes, fields):
    return (*sorted(boxes), *sorted(fields))


class Written:
    """Finds what the new program only writes, so that it is free where nothing else stands against it."""

    def __init__(self, program, behind, change, fields):
        self.ahead = program
        self.behind = behind
        self.change = change
        self.names = [name for name in behind[2] if name in program[2]]
        self.papers = own_papers(behind)
        self.old_papers = own_papers(program)
        self.fields = fields
        # The boxes and fields that are not free.
        self.bound = []

    def left_free(self):
        """A tuple of boxes and fields."""
        self._bind_unwritten()
        while True:
            many = len(self.bound)
            turning = Turning(self.ahead, self.behind, self.change, self._all_free())
            self._bind_reckoned(turning)
            self._bind_sources(turning)
            if len(self.bound) == many:
                return self._all_free()

    def _all_free(self):
        boxes = [box for box in self.behind[1] if box not in self.bound]
        return _in_order(boxes, [one for one in self.fields if one not in self.bound])

    def _bind(self, thing):
        if thing not in self.bound:
            self.bound.append(thing)

    def _bind_unwritten(self):
        """What no new row writes is as it was, and what old rows put is paired."""
        puts = [row[1] for _, _, row in self._rows(self.behind) if row[0] == "put"]
        old_puts = [row[1] for _, _, row in self._rows(self.ahead) if row[0] == "put"]
        for box in self.behind[1]:
            if box in self.ahead[1] and (box not in puts or box in old_puts):
                self._bind(box)
        sets = self._sets(self.behind, self.papers)
        for kind, field in self.fields:
            lead = dict(self.change[4].get(kind, ())).get(field, ("name", field))
            if (kind, field) not in sets and lead == ("name", field):
                self._bind((kind, field))

    def _rows(self, program):
        """A list of triples (name, r, row) of the rows of the parts that both programs have."""
        return [(name, r, row) for name in self.names for r, row in enumerate(program[2][name][2])]

    def _sets(self, program, papers):
        """A list of the pairs (kind, field) that are set in a program."""
        found = []
        for name, r, row in self._rows(program):
            if row[0] == "set" and papers[name][r] is not None:
                kind = kind_of(row[1], papers[name][r], program)
                found.append((kind[1], row[2]))
        return found

    def _bind_reckoned(self, turning):
        """What is reckoned in a term that is wanted is not free."""
        wanting = Wanting(turning, {})
        for name in self.names:
            rows, paper = self.behind[2][name][2], self.papers[name]
            free_writes = [turning.is_free_write(row, holding) for row, holding in zip(rows, paper)]
            wanted = wanting.of_new(rows, free_writes)
            for r, row in enumerate(rows):
                if paper[r] is not None and not free_writes[r]:
                    terms = wanting.new_terms(row)
                    if row[0] == "let" and row[1] in wanted[r]:
                        terms = [row[2]]
                    for term in terms:
                        self._bind_within(term, paper[r])

    def _bind_within(self, term, holding):
        todo = [term]
        while todo:
            one = todo.pop()
            if one[0] == "box":
                self._bind(one[1])
            if one[0] == "field":
                self._bind((kind_of(one[1], holding, self.behind)[1], one[2]))
            todo.extend(parts_of(one))

    def _bind_sources(self, turning):
        """Each old field that is set is to be paired to a new one, the likeliest first."""
        for kind, old in self._sets(self.ahead, self.old_papers):
            coming = [one for one in self.fields if one[0] == kind and old in turning.sources_of(kind, one[1])]
            if coming and not any([one in self.bound for one in coming]):
                same = [one for one in coming if one[1] == old]
                self._bind((same or coming)[0])
