"""Changes of all shapes for right programs, made by numbers: the same ones each time."""

import random

from changewhile.changes import changed
from changewhile.errors import NotRight
from changewhile.papers import papers_of
from tests.making import BACKS, NAMES, NUMBER, RECORDS, TRUTH, Maker

LETTERS = "abcdefghijklmnopqrstuvwxyz"


class Changer(Maker):
    """Makes changes, one behind another, of a program and of those behind them."""

    def __init__(self, seed, fate=0.5):
        super().__init__(seed)
        self.chance = random.Random(seed + 10 ** 6)
        self.fresh = 0
        self.fate = fate

    def change(self, program):
        """A change of a right program that is not refused."""
        kinds, boxes, parts = ({**things} for things in program)
        for _ in range(self.chance.randrange(1, 4)):
            way = self.chance.choice((self.kinds_otherwise, self.boxes_otherwise, self.parts_otherwise,
                                      self.parts_otherwise, self.kind_out, self.box_out, self.heads_otherwise))
            way(kinds, boxes, parts)
        return self.between(program, self.righted((kinds, boxes, parts)))

    def kinds_otherwise(self, kinds, boxes, parts):
        """A field more, less, or of another kind."""
        if not kinds or self.chance.random() < 0.2:
            free = [name for name in RECORDS if name not in kinds]
            if free:
                kinds[free[0]] = (("f", NUMBER),)
            return
        name = self.chance.choice(sorted(kinds))
        fields = dict(kinds[name])
        field = self.chance.choice("fghk")
        if field in fields and self.chance.random() < 0.5:
            del fields[field]
        else:
            kind = self.kind()
            if kind[-1] in ("number", "truth") or kind[-1] in kinds:
                fields[field] = kind
        kinds[name] = tuple(sorted(fields.items()))

    def boxes_otherwise(self, kinds, boxes, parts):
        box = self.chance.choice(("best", "count", "flag", "kept", "spare"))
        kind = self.chance.choice((NUMBER, TRUTH, ("list", NUMBER), ("list", ("list", TRUTH))))
        if box in boxes and self.chance.random() < 0.5:
            kind = boxes[box][0]
        boxes[box] = (kind, self.first(kind))

    def kind_out(self, kinds, boxes, parts):
        if kinds and self.chance.random() < self.fate:
            name = self.chance.choice(sorted(kinds))
            del kinds[name]
            for other in kinds:
                kinds[other] = tuple(pair for pair in kinds[other] if name not in flat(pair[1]))
            for box in [box for box in boxes if name in flat(boxes[box][0])]:
                del boxes[box]

    def box_out(self, kinds, boxes, parts):
        if boxes and self.chance.random() < self.fate:
            del boxes[self.chance.choice(sorted(boxes))]

    def parts_otherwise(self, kinds, boxes, parts):
        """Some rows of a part otherwise, left out or put in."""
        name = self.chance.choice(sorted(parts))
        takes, gives, rows = parts[name]
        rows = list(rows)
        for _ in range(self.chance.randrange(1, 4)):
            at = self.chance.randrange(len(rows))
            if self.chance.random() < 0.4:
                rows.insert(at, self.plain_row())
                rows = [jumped(row, lambda n: n + 1 if n > at else n) for row in rows]
            elif len(rows) > 2 and at < len(rows) - 1:
                del rows[at]
                rows = [jumped(row, lambda n: n - 1 if n > at else n) for row in rows]
        parts[name] = (takes, gives, tuple(rows))

    def plain_row(self):
        self.fresh += 1
        return self.chance.choice((
            ("let", self.chance.choice(NAMES), ("number", self.chance.randrange(3))),
            ("tell", ("number", self.chance.randrange(9))),
            ("call", self.chance.choice(NAMES), "main", ()),
            ("mark", "z" + LETTERS[self.fresh // 26 % 26] + LETTERS[self.fresh % 26])))

    def heads_otherwise(self, kinds, boxes, parts):
        """A part gives another kind, takes one more or less, is out, or is new."""
        name = self.chance.choice(("side", "tail", "extra"))
        if name in parts and self.chance.random() < 0.3:
            del parts[name]
            return
        if name not in parts:
            parts[name] = ((), NUMBER, (("tell", ("number", 7)), ("back", ("number", 3))))
            return
        takes, gives, rows = parts[name]
        if self.chance.random() < 0.5:
            gives = self.chance.choice((NUMBER, TRUTH))
        elif takes and self.chance.random() < 0.5:
            takes = takes[:-1]
        else:
            takes = tuple([take for take in takes if take[0] != "d"]) + (("d", NUMBER),)
        parts[name] = (takes, gives, rows)

    def righted(self, program):
        """The program with what is wrong exchanged for what is right, rows for tells, gos and backs."""
        kinds, boxes, parts = program
        while True:
            try:
                papers_of(program)
                return program
            except NotRight as fault:
                takes, gives, rows = parts[fault.name]
                if fault.row == -1:
                    gone = [take for take in takes if not set(flat(take[1])) - {"list", "record", "number",
                                                                               "truth"} <= set(kinds)]
                    there = set(flat(gives)) - {"list", "record", "number", "truth"} <= set(kinds)
                    parts[fault.name] = (tuple(take for take in takes if take not in gone),
                                         gives if there else NUMBER, rows)
                    continue
                last = fault.row == len(rows) - 1
                other = ("go", 0) if last and gives[0] not in BACKS else ("back", BACKS[gives[0]]) if last else (
                    "tell", ("number", fault.row))
                parts[fault.name] = (takes, gives, rows[:fault.row] + (other,) + rows[fault.row + 1:])

    def between(self, program, behind):
        """A change from one right program to another, with such leads as it needs, and sometimes more."""
        outs = tuple(sorted(name for old, new in zip(program, behind) for name in old if name not in new))
        put = [{name: new[name] for name in new
                if name not in old or old[name] != new[name] or self.chance.random() < 0.1}
               for old, new in zip(program, behind)]
        held = {name: [pair for pair in program[0][name] if set(flat(pair[1])) - {"list", "record", "number", "truth"}
                       <= set(behind[0])] for name in program[0]}
        kindleads = {}
        for name in put[0]:
            if name in program[0]:
                leads = []
                for field, kind in put[0][name]:
                    if (field, kind) not in program[0][name] or self.chance.random() < 0.3:
                        leads.append((field, self.lead(kind, dict(held[name]))))
                if any(lead is None and (field, kind) not in program[0][name]
                       for (field, lead) in leads for kind in [dict(put[0][name])[field]]):
                    # No such lead was found: the kind stays as far as it may, and all is tried once more.
                    return self.between(program, self.righted((
                        {**behind[0], name: tuple(pair for pair in program[0][name] if pair in held[name])},
                        behind[1], behind[2])))
                leads = tuple(pair for pair in leads if pair[1] is not None)
                if leads or self.chance.random() < 0.2:
                    kindleads[name] = leads
        boxleads = {}
        for box in put[1]:
            if box in program[1]:
                old, new = program[1][box][0], put[1][box][0]
                if old != new or self.chance.random() < 0.4:
                    lead = self.lead(new, {"it": old})
                    if lead is not None:
                        boxleads[box] = lead
                    else:
                        boxleads[box] = ("name", "it") if old == new else ("empty", new[1])
        change = (outs, *put, kindleads, boxleads)
        assert changed(program, change) == behind
        return change

    def lead(self, kind, held):
        """A term of a kind over such names, without boxes and fields, or None."""
        self.boxes = {}
        self.kinds = {name: () for name in RECORDS}
        for _ in range(5):
            term = self.term(kind, held, 2)
            if term is not None:
                # Other lists' kinds in a term may be out; a lead of these is none.
                if "field" not in str(term) and not any("'" + name + "'" in str(term) for name in RECORDS):
                    return term
        return None


def flat(kind):
    """All texts within a kind."""
    return [kind[0]] + [word for part in kind[1:] for word in (flat(part) if isinstance(part, tuple) else [part])]


def jumped(row, told):
    """The row, where it leads to another row that one told."""
    if row[0] == "go":
        return ("go", told(row[1]))
    if row[0] == "unless":
        return ("unless", row[1], told(row[2]))
    return row
