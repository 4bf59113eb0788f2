"""Changes with a pairing: names and fields otherwise called, and rows put in; the same ones each time."""

import random

from changewhile.changes import changed
from changewhile.papers import papers_of
from changewhile.terms import folded, with_names
from tests.making import NUMBER, TRUTH, Maker

FRESH = ("za", "zb", "zc", "zd")
FIELDS = {"f": "ff", "g": "gg", "h": "hh"}


def with_fields(term, called):
    """The term with each field called otherwise."""
    def told(one, parts):
        if one[0] == "field":
            return ("field", parts[0], called.get(one[2], one[2]))
        return (one[0], *parts) if parts else one
    return folded(term, told)


class Pairer(Maker):
    """Makes changes that rename and put in, of a right program."""

    def __init__(self, seed, ways=("names", "fields", "free", "rows")):
        super().__init__(seed)
        self.chance = random.Random(seed + 77)
        self.ways = ways

    def change(self, program):
        """A change that only calls names and fields otherwise and puts rows in."""
        self.program, self.old_papers = program, papers_of(program)
        called = FIELDS if "fields" in self.ways else {}
        kinds, leads = {}, {}
        for name, fields in program[0].items():
            own = [(called.get(field, field), kind) for field, kind in fields]
            told = [(called[field], ("name", field)) for field, _ in fields if field in called]
            if "free" in self.ways:
                own.append(("log", NUMBER))
                told.append(("log", ("number", 3)))
            kinds[name] = tuple(sorted(own))
            if told:
                leads[name] = tuple(sorted(told))
        boxes = {"spare": (NUMBER, 4), "sparet": (TRUTH, True)} if "free" in self.ways else {}
        self.freshly = 0
        parts = {name: self.part(name, called) for name in program[2]}
        change = ((), kinds if leads else {}, boxes, parts, leads, {})
        changed(program, change)
        return change

    def part(self, name, called):
        takes, gives, rows = self.program[2][name]
        names = sorted({take for take, _ in takes} | {row[1] for row in rows if row[0] in ("let", "new", "call")}
                       | {pair[0] for holding in self.old_papers[name] for pair in holding or ()})
        other = names[:]
        if "names" in self.ways:
            self.chance.shuffle(other)
            other = [one if self.chance.random() < 0.5 else "q" + one for one in other]
        self.called = dict(zip(names, other))
        new, at = [], []
        for r, row in enumerate(rows):
            ahead = len(new)
            if "rows" in self.ways:
                for _ in range(self.chance.choice((0, 0, 1, 2))):
                    new.append(self.row_put_in(name, r))
            at.append((ahead, len(new)))
            new.append(self.renamed(row, called))
        new = [self.led(row, at) if k in [one[1] for one in at] else row for k, row in enumerate(new)]
        return (tuple((self.called[take], kind) for take, kind in takes), gives, tuple(new))

    def led(self, row, at):
        """The row, leading to where its rows are now, or to what is put in right ahead of them."""
        if row[0] == "go":
            return ("go", self.chance.randrange(at[row[1]][0], at[row[1]][1] + 1))
        if row[0] == "unless":
            return ("unless", row[1], self.chance.randrange(at[row[2]][0], at[row[2]][1] + 1))
        return row

    def renamed(self, row, called):
        def told(term):
            return with_fields(with_names(term, {old: ("name", new) for old, new in self.called.items()}), called)

        word = row[0]
        if word == "let":
            return ("let", self.called[row[1]], told(row[2]))
        if word == "put":
            return ("put", row[1], told(row[2]))
        if word == "set":
            return ("set", told(row[1]), called.get(row[2], row[2]), told(row[3]))
        if word == "new":
            fields = [(called.get(field, field), told(term)) for field, term in row[3]]
            if "free" in self.ways:
                fields.append(("log", ("number", self.chance.randrange(5))))
            return ("new", self.called[row[1]], row[2], tuple(sorted(fields)))
        if word == "call":
            return ("call", self.called[row[1]], row[2], tuple(told(term) for term in row[3]))
        if word in ("tell", "back"):
            return (word, told(row[1]))
        return ("unless", told(row[1]), row[2]) if word == "unless" else row

    def row_put_in(self, name, r):
        """A row that lets a new name, puts a free box, sets a free field, or marks."""
        holding = self.old_papers[name][r] or ()
        numbers = [self.called[one] for one, kind in holding if kind == NUMBER]
        nodes = [self.called[one] for one, kind in holding if kind[0] == "record"]
        term = ("name", self.chance.choice(numbers)) if numbers else ("number", self.chance.randrange(3))
        term = self.chance.choice((term, ("add", term, ("number", 1)), ("number", 0)))
        way = self.chance.choice(("let", "put", "set", "mark"))
        if way == "put" and "free" in self.ways:
            return self.chance.choice((("put", "spare", ("add", term, ("box", "spare"))), ("put", "sparet", ("truth", False))))
        if way == "set" and "free" in self.ways and nodes:
            return ("set", ("name", self.chance.choice(nodes)), "log", term)
        if way == "mark":
            self.freshly += 1
            return ("mark", "z" + "abcdefghijklmnopqrstuvwxyz"[self.freshly // 26 % 26]
                    + "abcdefghijklmnopqrstuvwxyz"[self.freshly % 26])
        return ("let", self.chance.choice(FRESH), term)
