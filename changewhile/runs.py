"""A run: a state that is stepped on where it stands."""

from changewhile.errors import Stuck
from changewhile.kinds import NUMBER, TRUTH
from changewhile.reckoning import worth_by
from changewhile.standing import Standing
from changewhile.values import is_of

MOST_FRAMES = 60


class Run:
    """A state, with dicts and lists of its own, that goes on by a program."""

    def __init__(self, program, state):
        boxes, records, frames, words, end = state
        self.kinds, self.firsts, self.parts = program
        self.standing = Standing(boxes, records)
        self.frames = [(name, part, row, dict(held)) for name, part, row, held in frames]
        self.words = list(words)
        self.end = end

    def program(self):
        """The program by which the run goes on, with dicts of its own."""
        return (dict(self.kinds), dict(self.firsts), dict(self.parts))

    def go_by(self, program):
        """Go on by another program."""
        self.kinds, self.firsts, self.parts = program

    def state(self):
        """The state at which the run is, all led over, with dicts of its own."""
        frames = [(name, part, row, dict(held)) for name, part, row, held in self.frames]
        return (*self.standing.all_led(), tuple(frames), tuple(self.words), self.end)

    def step(self):
        """Do the last frame's row, of a run that has not ended; else Stuck."""
        name, part, row, _ = self.frames[-1]
        try:
            self._do(part[2][row])
        except Stuck:
            raise Stuck(name, row) from None

    def _do(self, row):
        word = row[0]
        if word == "call":
            self._call(row)
        elif word == "back":
            self._give_back(row[1])
        elif word == "go":
            self._go_to(row[1])
        elif word == "unless" and not self._reckon(row[1], TRUTH):
            self._go_to(row[2])
        else:
            self._change(row)
            self._go_on()

    def _change(self, row):
        """Do what a row does that leads to the row behind it, but for going there."""
        word = row[0]
        if word == "let":
            self._hold(row[1], self._worth(row[2]))
        elif word == "put":
            self._put(row[1], row[2])
        elif word == "set":
            self._set(row[1], row[2], row[3])
        elif word == "new":
            self._make(row)
        elif word == "tell":
            self.words.append(self._reckon(row[1], NUMBER))

    def _worth(self, term):
        standing = self.standing
        return worth_by(term, self.frames[-1][3], lambda box: standing.box(box), lambda ref: standing.record(ref))

    def _reckon(self, term, kind):
        """The worth of a term; else Stuck, also where it is not of the kind."""
        value = self._worth(term)
        if not is_of(kind, value, self.standing.records):
            raise Stuck("", -1)
        return value

    def _reckon_all(self, terms, kinds):
        """The worths of terms that are to be as many as kinds, each of its kind; else Stuck."""
        if len(terms) != len(kinds):
            raise Stuck("", -1)
        return [self._reckon(term, kind) for term, kind in zip(terms, kinds)]

    def _hold(self, name, value):
        self.frames[-1][3][name] = value

    def _go_to(self, row):
        name, part, _, held = self.frames[-1]
        self.frames[-1] = (name, part, row, held)

    def _go_on(self):
        self._go_to(self.frames[-1][2] + 1)

    def _put(self, box, term):
        if box not in self.firsts or box not in self.standing.boxes:
            raise Stuck("", -1)
        self.standing.put(box, self._reckon(term, self.firsts[box][0]))

    def _set(self, target, field, term):
        ref = self._worth(target)
        records = self.standing.records
        # A dead record has no name of a kind that is there.
        if not isinstance(ref, str) or ref not in records or records[ref][0] not in self.kinds:
            raise Stuck("", -1)
        name, pairs = self.standing.record(ref)
        kinds = dict(self.kinds[name])
        if field not in kinds or field not in dict(pairs):
            raise Stuck("", -1)
        value = self._reckon(term, kinds[field])
        records[ref] = (name, tuple([(one, value if one == field else old) for one, old in pairs]))

    def _make(self, row):
        """Make the record of a new."""
        kind, told = row[2], row[3]
        fields = [field for field, _ in told]
        if kind not in self.kinds or fields != [field for field, _ in self.kinds[kind]]:
            raise Stuck("", -1)
        values = self._reckon_all([term for _, term in told], [wanted for _, wanted in self.kinds[kind]])
        records = self.standing.records
        ref = "r" + str(len(records))
        records[ref] = (kind, tuple(zip(fields, values)))
        self._hold(row[1], ref)

    def _call(self, row):
        name = row[2]
        if name not in self.parts:
            raise Stuck("", -1)
        part = self.parts[name]
        values = self._reckon_all(row[3], [kind for _, kind in part[0]])
        if len(self.frames) < MOST_FRAMES:
            self.frames.append(frame_at_first(name, part, values))
        else:
            self.end = ("deep",)

    def _give_back(self, term):
        value = self._reckon(term, self.frames[-1][1][1])
        if len(self.frames) == 1:
            self.frames.pop()
            self.end = ("back", value)
            return
        part, row = self.frames[-2][1], self.frames[-2][2]
        waiting = part[2][row]
        if waiting[0] != "call":
            raise Stuck("", -1)
        self.frames.pop()
        self._hold(waiting[1], value)
        self._go_on()


def frame_at_first(name, part, values):
    """A frame of a part at its row 0, with such values for its takes."""
    takes = [take for take, _ in part[0]]
    return (name, part, 0, dict(zip(takes, values)))
