"""Changes with a pairing: names and fields otherwise called, and rows put in; the same ones each time."""

import random

from changewhile.changes import changed
from changewhile.kinding import kind_of
from changewhile.papers import papers_of
from changewhile.terms import folded, with_names
from tests.making import NUMBER, TRUTH, Maker

FRESH = ("za", "zb", "zc", "zd")
FIELDS = {"f": "ff", "g": "gg", "h": "hh"}


def with_fields(term, called):
    """The term with each field called otherwise."""
    def told(one, parts):
        if one[0] == "field":
            return ("field", parts[0], called.get(one[2], one[2]))
        return (one[0], *parts) if parts else one
    return folded(term, told)


class Pairer(Maker):
    """Makes changes that rename and put in, of a right program."""

    def __init__(self, seed, ways=("names", "fields", "free", "rows")):
        super().__init__(seed)
        self.chance = random.Random(seed + 77)
        self.ways = ways
        self.more = 0

    def change(self, program):
        """A change that only calls names and fields otherwise and puts rows in."""
        self.program, self.old_papers = program, papers_of(program)
        self.more = self.chance.randrange(1, 9) if "led" in self.ways else 0
        called = FIELDS if "fields" in self.ways else {}
        kinds, leads = {}, {}
        for name, fields in program[0].items():
            own = [(called.get(field, field), kind) for field, kind in fields]
            told = [(called.get(field, field), self.led_more(("name", field), kind)) for field, kind in fields
                    if field in called or self.more and kind == NUMBER]
            if "free" in self.ways:
                own.append(("log", NUMBER))
                told.append(("log", ("number", 3)))
            kinds[name] = tuple(sorted(own))
            if told:
                leads[name] = tuple(sorted(told))
        boxes = {"spare": (NUMBER, 4), "sparet": (TRUTH, True)} if "free" in self.ways else {}
        self.freshly = 0
        parts = {name: self.part(name, called) for name in program[2]}
        boxleads = {}
        if self.more:
            boxleads = {box: self.led_more(("name", "it"), NUMBER) for box in program[1] if program[1][box][0] == NUMBER}
            boxes.update({box: program[1][box] for box in boxleads})
        change = ((), kinds if leads else {}, boxes, parts, leads, boxleads)
        changed(program, change)
        return change

    def part(self, name, called):
        takes, gives, rows = self.program[2][name]
        names = sorted({take for take, _ in takes} | {row[1] for row in rows if row[0] in ("let", "new", "call")}
                       | {pair[0] for holding in self.old_papers[name] for pair in holding or ()})
        other = names[:]
        if "names" in self.ways:
            self.chance.shuffle(other)
            other = [one if self.chance.random() < 0.5 else "q" + one for one in other]
        self.called = dict(zip(names, other))
        new, at = [], []
        for r, row in enumerate(rows):
            ahead = len(new)
            if "rows" in self.ways:
                for _ in range(self.chance.choice((0, 0, 1, 2))):
                    new.append(self.row_put_in(name, r))
            at.append((ahead, len(new)))
            self.holding = self.old_papers[name][r] or ()
            new.append(self.renamed(row, called))
        new = [self.led(row, at) if k in [one[1] for one in at] else row for k, row in enumerate(new)]
        return (tuple((self.called[take], kind) for take, kind in takes), gives, tuple(new))

    def led_more(self, term, kind):
        """A number led to be some more, as all numbers in boxes and fields are."""
        return ("add", term, ("number", self.more)) if self.more and kind == NUMBER else term

    def with_less(self, term):
        """The term with the boxes and fields that have some more made less again."""
        def told(one, parts):
            made = ("field", parts[0][0], one[2]) if one[0] == "field" else (
                (one[0], *[part for part, _ in parts]) if parts else one)
            old = ("field", parts[0][1], one[2]) if one[0] == "field" else one
            if one[0] in ("box", "field") and self.more and kind_of(old, self.holding, self.program) == NUMBER:
                made = ("less", made, ("number", self.more))
            return (made, one)
        return folded(term, told)[0]

    def led(self, row, at):
        """The row, leading to where its rows are now, or to what is put in right ahead of them."""
        if row[0] == "go":
            return ("go", self.chance.randrange(at[row[1]][0], at[row[1]][1] + 1))
        if row[0] == "unless":
            return ("unless", row[1], self.chance.randrange(at[row[2]][0], at[row[2]][1] + 1))
        return row

    def renamed(self, row, called):
        def told(term):
            term = self.with_less(term)
            return with_fields(with_names(term, {old: ("name", new) for old, new in self.called.items()}), called)

        word = row[0]
        kinds, boxes, _ = self.program
        if word == "let":
            return ("let", self.called[row[1]], told(row[2]))
        if word == "put":
            return ("put", row[1], self.led_more(told(row[2]), boxes.get(row[1], (None,))[0]))
        if word == "set":
            kind = kind_of(row[1], self.holding, self.program)
            field = dict(kinds[kind[1]])[row[2]] if self.more and kind else None
            return ("set", told(row[1]), called.get(row[2], row[2]), self.led_more(told(row[3]), field))
        if word == "new":
            own = dict(kinds[row[2]])
            fields = [(called.get(field, field), self.led_more(told(term), own.get(field))) for field, term in row[3]]
            if "free" in self.ways:
                fields.append(("log", ("number", self.chance.randrange(5))))
            return ("new", self.called[row[1]], row[2], tuple(sorted(fields)))
        if word == "call":
            return ("call", self.called[row[1]], row[2], tuple(told(term) for term in row[3]))
        if word in ("tell", "back"):
            return (word, told(row[1]))
        return ("unless", told(row[1]), row[2]) if word == "unless" else row

    def row_put_in(self, name, r):
        """A row that lets a new name, puts a free box, sets a free field, or marks."""
        holding = self.old_papers[name][r] or ()
        numbers = [self.called[one] for one, kind in holding if kind == NUMBER]
        nodes = [self.called[one] for one, kind in holding if kind[0] == "record"]
        term = ("name", self.chance.choice(numbers)) if numbers else ("number", self.chance.randrange(3))
        term = self.chance.choice((term, ("add", term, ("number", 1)), ("number", 0)))
        way = self.chance.choice(("let", "put", "set", "mark"))
        if way == "put" and "free" in self.ways:
            return self.chance.choice((("put", "spare", ("add", term, ("box", "spare"))), ("put", "sparet", ("truth", False))))
        if way == "set" and "free" in self.ways and nodes:
            return ("set", ("name", self.chance.choice(nodes)), "log", term)
        if way == "mark":
            self.freshly += 1
            return ("mark", "z" + "abcdefghijklmnopqrstuvwxyz"[self.freshly // 26 % 26]
                    + "abcdefghijklmnopqrstuvwxyz"[self.freshly % 26])
        return ("let", self.chance.choice(FRESH), term)
