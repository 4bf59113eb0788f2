"""Right programs of all shapes, made by numbers: the same ones each time."""

import random

from changewhile.errors import NotRight
from changewhile.papers import papers_of

NUMBER, TRUTH = ("number",), ("truth",)
RECORDS = ("node", "pair", "unit")
BOXES = ("best", "count", "flag", "kept")
PARTS = ("main", "side", "tail")
NAMES = ("a", "b", "c", "d", "p", "q")
BACKS = {"number": ("number", 0), "truth": ("truth", False)}


class Maker:
    """Makes right programs by a number."""

    def __init__(self, seed):
        self.chance = random.Random(seed)
        self.marks = 0

    def kind(self, depth=2):
        word = self.chance.choice(("number", "number", "truth", "list", "record"))
        if word == "list" and depth:
            return ("list", self.kind(depth - 1))
        if word == "record":
            return ("record", self.chance.choice(RECORDS))
        return TRUTH if word == "truth" else NUMBER

    def first(self, kind):
        """A plain value of a kind that has one."""
        if kind == NUMBER:
            return self.chance.randrange(4)
        if kind == TRUTH:
            return self.chance.choice((True, False))
        if kind[1][0] == "record":
            return ()
        return tuple(self.first(kind[1]) for _ in range(self.chance.randrange(3)))

    def program(self):
        self.marks = 0
        self.kinds = {name: tuple((field, self.kind()) for field in sorted(self.chance.sample("fgh", many)))
                      for name, many in zip(RECORDS, (2, 3, 0))}
        self.boxes = {}
        for box in BOXES:
            kind = ("list", self.kind(1)) if self.chance.random() < 0.5 else self.chance.choice((NUMBER, TRUTH))
            self.boxes[box] = (kind, self.first(kind))
        self.heads = {name: (tuple((take, self.kind()) for take in self.chance.sample(NAMES, many)),
                             self.chance.choice((NUMBER, TRUTH, ("list", NUMBER), ("record", "unit"))))
                      for name, many in zip(PARTS, (0, 2, 1))}
        parts = {name: (*self.heads[name], self.rows(name)) for name in PARTS}
        return self.righted((self.kinds, self.boxes, parts))

    def righted(self, program):
        """The program with each row that is wrong exchanged for one that is right anywhere."""
        while True:
            try:
                papers_of(program)
                return program
            except NotRight as fault:
                takes, gives, rows = program[2][fault.name]
                last = fault.row == len(rows) - 1
                other = ("go", 0) if last and gives[0] not in BACKS else ("back", BACKS[gives[0]]) if last else (
                    "tell", ("number", fault.row))
                rows = rows[:fault.row] + (other,) + rows[fault.row + 1:]
                program[2][fault.name] = (takes, gives, rows)

    def rows(self, name):
        takes, gives = self.heads[name]
        many = self.chance.randrange(4, 16)
        held = dict(takes)
        rows = []
        for r in range(many - 1):
            row = self.row(held, gives, many)
            rows.append(row)
            if row[0] == "new":
                held[row[1]] = ("record", row[2])
            if row[0] == "call":
                held[row[1]] = self.heads[row[2]][1]
        last = self.term(gives, held, 2)
        rows.append(("back", last) if last else ("go", self.chance.randrange(many)))
        return tuple(rows)

    def row(self, held, gives, many):
        word = self.chance.choice(("let", "let", "let", "put", "set", "new", "new", "call", "call", "tell", "mark",
                                   "mark", "go", "unless", "unless", "back"))
        made = self.row_of(word, held, gives, many)
        return made if None not in made else ("tell", self.term(NUMBER, held, 3))

    def row_of(self, word, held, gives, many):
        if word == "let":
            name, kind = self.chance.choice(NAMES), self.kind()
            term = self.term(kind, held, 3)
            if term:
                held[name] = kind
            return ("let", name, term)
        if word == "put":
            box = self.chance.choice(BOXES)
            return ("put", box, self.term(self.boxes[box][0], held, 3))
        if word == "set":
            name = self.chance.choice([name for name in RECORDS if self.kinds[name]])
            field, kind = self.chance.choice(self.kinds[name])
            record, term = self.term(("record", name), held, 1), self.term(kind, held, 2)
            return ("set", record, field, term)
        if word == "new":
            name = self.chance.choice(RECORDS)
            fields = tuple((field, self.term(kind, held, 2)) for field, kind in self.kinds[name])
            return ("new", self.chance.choice(NAMES), name, fields if all(term for _, term in fields) else None)
        if word == "call":
            name = self.chance.choice(PARTS)
            terms = tuple(self.term(kind, held, 2) for _, kind in self.heads[name][0])
            return ("call", self.chance.choice(NAMES), name, terms if None not in terms else None)
        if word == "mark":
            self.marks += 1
            return ("mark", "m" + "abcdefghijklmnopqrstuvwxyz"[self.marks // 26] + chr(97 + self.marks % 26))
        if word == "go":
            return ("go", self.chance.randrange(many))
        if word == "unless":
            return ("unless", self.term(TRUTH, held, 3), self.chance.randrange(many))
        if word == "back":
            return ("back", self.term(gives, held, 2))
        return ("tell", self.term(NUMBER, held, 3))

    def term(self, kind, held, depth):
        """A term of a kind, or None where none was found."""
        ways = [("name", name) for name in held if held[name] == kind]
        ways += [("box", box) for box in self.boxes if self.boxes[box][0] == kind]
        ways += [("field", ("name", name), field) for name in held if held[name][0] == "record"
                 for field, own in self.kinds[held[name][1]] if own == kind]
        if kind == NUMBER:
            ways.append(("number", self.chance.choice((0, 1, 2, 5, 10 ** 12 - 1))))
        if kind == TRUTH:
            ways.append(("truth", self.chance.choice((True, False))))
        if kind[0] == "list":
            ways.append(("empty", kind[1]))
        if depth and (not ways or self.chance.random() < 0.6):
            ways = [way for way in self.words(kind, held, depth - 1) if None not in way] or ways
        return self.chance.choice(ways) if ways else None

    def words(self, kind, held, depth):
        def term(wanted):
            return self.term(wanted, held, depth)

        ways = [("pick", term(TRUTH), term(kind), term(kind)),
                ("at", term(("list", kind)), term(NUMBER), term(kind))]
        if kind == NUMBER:
            ways += [(word, term(NUMBER), term(NUMBER)) for word in ("add", "less", "times")]
            ways.append(("many", term(("list", self.kind(1)))))
        if kind == TRUTH:
            other = self.kind(1)
            ways += [("same", term(other), term(other)), ("under", term(NUMBER), term(NUMBER)),
                     ("both", term(TRUTH), term(TRUTH)), ("not", term(TRUTH))]
        if kind[0] == "list":
            ways.append(("join", term(kind), term(kind)))
            ways.append(("list", *[term(kind[1]) for _ in range(self.chance.randrange(1, 4))]))
        return ways


def made_programs(many):
    """So many right programs; a run of each begins by main, without values."""
    return [Maker(seed).program() for seed in range(many)]
