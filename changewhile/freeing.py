"""Which boxes and fields may be free, so that nothing of the old program is paired to them."""

from changewhile.kinding import kind_of
from changewhile.terms import parts_of
from changewhile.wanting import Wanting


def likely_frees(sides):
    """A list of what may be free, in the order in which it is tried: tuples of boxes and pairs (kind, field)."""
    boxes = [box for box in sides.behind[1] if box not in sides.ahead[1]]
    led = [(kind, field) for kind in sides.change[4] for field, lead in sides.change[4][kind] if lead[0] != "name"]
    return [_in_order(boxes, led), _in_order(boxes, []), Written(sides, True).left_free(),
            Written(sides, False).left_free()]


def _in_order(boxes, fields):
    return (*sorted(boxes), *sorted(fields))


class Written:
    """Finds what the new program only writes, so that it is free where nothing else stands against it."""

    def __init__(self, sides, keeps_unwritten):
        """With sides, and whether fields that no new row sets, and no lead leads otherwise, are not free."""
        self.sides = sides
        self.keeps_unwritten = keeps_unwritten
        kinds = sides.behind[0]
        self.fields = [(kind, field) for kind in kinds if kind in sides.ahead[0] for field, _ in kinds[kind]]
        # The boxes and fields that are not free.
        self.bound = []

    def left_free(self):
        """A tuple of boxes and fields."""
        self._bind_unwritten()
        while True:
            many = len(self.bound)
            turning = self.sides.turning_by(self._all_free())
            self._bind_reckoned(turning)
            self._bind_sources(turning)
            if len(self.bound) == many:
                return self._all_free()

    def _all_free(self):
        boxes = [box for box in self.sides.behind[1] if box not in self.bound]
        return _in_order(boxes, [one for one in self.fields if one not in self.bound])

    def _bind(self, thing):
        if thing not in self.bound:
            self.bound.append(thing)

    def _bind_unwritten(self):
        """What no new row writes is as it was, and what old rows put is paired."""
        ahead, behind = self.sides.ahead, self.sides.behind
        puts = [row[1] for _, _, row in self._rows(behind) if row[0] == "put"]
        old_puts = [row[1] for _, _, row in self._rows(ahead) if row[0] == "put"]
        for box in behind[1]:
            if box in ahead[1] and (box not in puts or box in old_puts):
                self._bind(box)
        if self.keeps_unwritten:
            self._bind_unwritten_fields()

    def _bind_unwritten_fields(self):
        sets = self._sets(self.sides.behind, self.sides.new_papers)
        for kind, field in self.fields:
            lead = dict(self.sides.change[4].get(kind, ())).get(field, ("name", field))
            if (kind, field) not in sets and lead == ("name", field):
                self._bind((kind, field))

    def _rows(self, program):
        """A list of triples (name, r, row) of the rows of the parts that may be paired."""
        return [(name, r, row) for name in self.sides.names for r, row in enumerate(program[2][name][2])]

    def _sets(self, program, papers):
        """A list of the pairs (kind, field) that are set in a program."""
        found = []
        for name, r, row in self._rows(program):
            if row[0] == "set" and papers[name][r] is not None:
                kind = kind_of(row[1], papers[name][r], program)
                found.append((kind[1], row[2]))
        return found

    def _bind_reckoned(self, turning):
        """What is reckoned in a term that is wanted is not free."""
        wanting = Wanting(turning, {})
        for name in self.sides.names:
            rows, paper = self.sides.behind[2][name][2], self.sides.new_papers[name]
            free_writes = [turning.is_free_write(row, holding) for row, holding in zip(rows, paper)]
            wanted = wanting.of_new(rows, free_writes)
            for r, row in enumerate(rows):
                if paper[r] is not None and not free_writes[r]:
                    is_let = row[0] == "let" and row[1] in wanted[r]
                    for term in [row[2]] if is_let else wanting.new_terms(row):
                        self._bind_within(term, paper[r])

    def _bind_within(self, term, holding):
        todo = [term]
        while todo:
            one = todo.pop()
            if one[0] == "box":
                self._bind(one[1])
            if one[0] == "field":
                self._bind((kind_of(one[1], holding, self.sides.behind)[1], one[2]))
            todo.extend(parts_of(one))

    def _bind_sources(self, turning):
        """Each old field that is set is to be paired to a new one, the likeliest first."""
        for kind, old in self._sets(self.sides.ahead, self.sides.old_papers):
            coming = [one for one in self.fields if one[0] == kind and old in turning.sources_of(kind, one[1])]
            if coming and not any([one in self.bound for one in coming]):
                same = [one for one in coming if one[1] == old]
                self._bind((same or coming)[0])
