"""The rows of an old and a new part laid beside one another, as far as that may be."""

from changewhile.beside import without_new
from changewhile.terms import parts_of

# A pair's term is a term of the promised size.
MOST_PARTS = 80
# So many rows are laid otherwise, one after the other, before a part is given up.
MOST_SPLITS = 30


class Laying:
    """One try to lay the rows of an old part beside those of a new one.

    Behind it, entries is None, or a tuple of a pairing's entries that go on; and wrong_takes is
    None, or a pair of the name of a part and of those of its takes' pairs that do not hold.
    """

    def __init__(self, beside, wanting, takes):
        self.beside = beside
        self.old_wanted = wanting.of_old(beside.old_rows)
        self.free_writes = [beside.is_free_write(s) for s in range(len(beside.new_rows))]
        self.new_wanted = wanting.of_new(beside.new_rows, self.free_writes)
        self.old_marks = [row[1] for row in beside.old_rows if row[0] == "mark"]
        self.new_marks = [row[1] for row in beside.new_rows if row[0] == "mark"]
        # Pairs of two lets of which the new one goes alone.
        self.splits = []
        self.wrong_takes = None
        self.names = {}
        self.ways = {}
        self.entries = self._try_until_laid(takes)

    def _try_until_laid(self, takes):
        while len(self.splits) < MOST_SPLITS:
            many = len(self.splits)
            if self._lay(takes):
                return self._made_entries()
            if len(self.splits) == many:
                return None
        return None

    def _lay(self, takes):
        """Go all ways from the first rows on, and bring the names down to those that hold; whether that is done."""
        self.names = {(0, 0): list(takes)}
        self.ways = {}
        todo = [(0, 0)]
        while todo:
            place = todo.pop()
            told = self._go_on(place)
            if told is None:
                return False
            self.ways[place] = told[0]
            for n in told[0]:
                names = told[1]
                if n in self.names:
                    names = [pair for pair in self.names[n] if pair in told[1]]
                if n not in self.names or len(names) < len(self.names[n]):
                    self.names[n] = names
                    todo.append(n)
        return True

    def _go_on(self, place):
        """How two rows go on; or None, what stands against it having been noted."""
        r, s = place
        names = self.names[place]
        move = self._move(r, s)
        if move == "new":
            return self._new_alone(r, s, names)
        if move == "old":
            return self.beside.old_alone(r, s, names)
        told = self.beside.both(r, s, names)
        if told is None:
            self._note(r, s, names)
        return told

    def _new_alone(self, r, s, names):
        row = self.beside.new_rows[s]
        if row[0] == "let" and row[1] not in self.new_wanted[s]:
            return ([(r, s + 1)], without_new(names, row[1]))
        told = self.beside.new_alone(r, s, names)
        if told is None:
            return None
        return (told[0], [pair for pair in told[1] if _is_small(pair[1])])

    def _note(self, r, s, names):
        """Note what may be tried when two rows cannot go on."""
        old, new = self.beside.old_rows[r], self.beside.new_rows[s]
        if old[0] == "let" and new[0] == "let":
            self.splits.append((r, s))
        if old[0] == "call" and new[0] == "call" and old[2] == new[2] and old[2] in self.beside.takes:
            wrong = self.beside.failing_takes(old, new, r, names)
            if wrong:
                self.wrong_takes = (old[2], wrong)

    def _move(self, r, s):
        """Which of two rows goes on: "new" or "old", alone, or "both"."""
        old, new = self.beside.old_rows[r], self.beside.new_rows[s]
        # What nothing depends on goes alone, on each side: so it does no harm whether the other side has it.
        if self.free_writes[s] or new[0] == "let" and new[1] not in self.new_wanted[s]:
            return "new"
        if self.beside.is_lost_put(r) or old[0] == "let" and old[1] not in self.old_wanted[r]:
            return "old"
        if old[0] == "mark" and new[0] == "mark":
            return self._move_of_marks(old[1], new[1])
        if old[0] == new[0]:
            return "new" if (r, s) in self.splits else "both"
        for word in ("mark", "let", "go"):
            if new[0] == word:
                return "new"
            if old[0] == word:
                return "old"
        return "both"

    def _move_of_marks(self, old, new):
        if old != new and new not in self.old_marks:
            return "new"
        if old != new and old not in self.new_marks:
            return "old"
        return "both"

    def _made_entries(self):
        """The entries of what is laid; None where rows alone lead round and round."""
        ranks = {}
        for place in self.ways:
            chain = [place]
            while chain[-1] not in ranks and self._is_alone(chain[-1]):
                chain.append(self.ways[chain[-1]][0])
                if len(chain) > len(self.ways):
                    return None
            rank = ranks.get(chain[-1], 0)
            for k, one in enumerate(chain[::-1]):
                ranks[one] = rank + k
        return tuple([(r, s, ranks[(r, s)], tuple(sorted(self.names[(r, s)]))) for r, s in sorted(self.ways)])

    def _is_alone(self, place):
        return self._move(place[0], place[1]) != "both"


def _is_small(term):
    """Whether a term is of the promised size."""
    todo = [term]
    many = 0
    while todo and many <= MOST_PARTS:
        many += 1
        todo.extend(parts_of(todo.pop()))
    return many <= MOST_PARTS
