"""Old rows beside new ones: how a pair of an old and a new row goes on, by each sort of rows."""

from changewhile.changes import is_lead
from changewhile.forms import alike
from changewhile.terms import names_within, with_names


class Beside:
    """The rows of an old part beside those of a new one, with the papers of both.

    Names are tuples of pairs of a new name and a term over old names. What goes on is told by
    the pairs of rows that come next, and a list of the pairs of names that hold there.
    """

    def __init__(self, turning, takes, old, new):
        """With the takes' pairs of each paired part; old and new are pairs of rows and their paper."""
        self.turning = turning
        self.takes = takes
        self.old_rows, self.old_paper = old
        self.new_rows, self.new_paper = new

    def _turned(self, term, r, names):
        # Where no way comes to the old row, nothing has a kind there but what has one without names.
        return self.turning.turned(term, dict(names), self.old_paper[r] or ())

    def _is_turned_alike(self, new, old, r, names):
        """Whether a new term, turned, is alike an old one; neither is if it cannot be made."""
        if old is None or new is None:
            return False
        turned = self._turned(new, r, names)
        return turned is not None and alike(turned, old)

    def both(self, r, s, names):
        """How both rows go on: the next pairs of rows, and the pairs of names; or None."""
        old, new = self.old_rows[r], self.new_rows[s]
        if old[0] != new[0] or not self._are_paired(old, new, r, names):
            return None
        if old[0] == "back":
            return ([], [])
        if old[0] == "go":
            return ([(old[1], new[1])], list(names))
        if old[0] == "unless":
            return ([(r + 1, s + 1), (old[2], new[2])], list(names))
        if old[0] in ("let", "new", "call"):
            left = without_new(without_old(names, old[1]), new[1])
            return ([(r + 1, s + 1)], left + [(new[1], ("name", old[1]))])
        return ([(r + 1, s + 1)], list(names))

    def _are_paired(self, old, new, r, names):
        """Whether two rows of one sort do the same."""
        word = old[0]
        if word in ("mark", "go"):
            return True
        if word == "let":
            return self._is_turned_alike(new[2], old[2], r, names)
        if word == "put":
            return self._are_puts_paired(old, new, r, names)
        if word == "set":
            return self._are_sets_paired(old, new, r, names)
        if word == "new":
            return self._are_news_paired(old, new, r, names)
        if word == "call":
            return self._are_calls_paired(old, new, r, names)
        return self._is_turned_alike(new[1], old[1], r, names)

    def _are_puts_paired(self, old, new, r, names):
        box = old[1]
        if new[1] != box or self.turning.is_free_box(box):
            return False
        return self._is_turned_alike(new[2], self.turning.box_led(box, old[2]), r, names)

    def _are_sets_paired(self, old, new, r, names):
        turning = self.turning
        if not self._is_turned_alike(new[1], old[1], r, names):
            return False
        kind = turning.record_kind(old[1], self.old_paper[r] or ())
        if kind is None or kind not in turning.behind[0]:
            return False
        became = turning.fields_of(kind, old[1])
        became[old[2]] = old[3]
        for field, _ in turning.behind[0][kind]:
            if not turning.is_free_field(kind, field):
                becomes = new[3] if field == new[2] else ("field", new[1], field)
                if not self._is_turned_alike(becomes, turning.field_led(kind, field, became), r, names):
                    return False
        return True

    def _are_news_paired(self, old, new, r, names):
        turning, kind = self.turning, old[2]
        if new[2] != kind or kind not in turning.behind[0]:
            return False
        told, terms = dict(old[3]), dict(new[3])
        return all([self._is_turned_alike(terms.get(field), turning.field_led(kind, field, told), r, names)
                    for field, _ in turning.behind[0][kind] if not turning.is_free_field(kind, field)])

    def _are_calls_paired(self, old, new, r, names):
        name = old[2]
        if new[2] != name or name not in self.takes:
            return False
        return self.failing_takes(old, new, r, names) == []

    def failing_takes(self, old, new, r, names):
        """A list of the pairs of the called part's takes that do not hold at a call; None where it is no call of it."""
        ahead, behind = self.turning.ahead, self.turning.behind
        told = _by_takes(ahead[2][old[2]], old[3])
        terms = _by_takes(behind[2][old[2]], new[3])
        if told is None or terms is None:
            return None
        return [(take, term) for take, term in self.takes[old[2]]
                if not self._is_turned_alike(terms[take], with_names(term, told), r, names)]

    def new_alone(self, r, s, names):
        """How the new row alone goes on: the same as of both; or None."""
        row = self.new_rows[s]
        if row[0] == "let":
            left = without_new(names, row[1])
            turned = self._turned(row[2], r, names)
            if turned is not None and is_lead(turned):
                left.append((row[1], turned))
            return ([(r, s + 1)], left)
        if row[0] == "go":
            return ([(r, row[1])], list(names))
        if row[0] == "mark" or self.is_free_write(s):
            return ([(r, s + 1)], list(names))
        return None

    def is_free_write(self, s):
        """Whether a new row is a put of a free box or a set of a free field."""
        return self.turning.is_free_write(self.new_rows[s], self.new_paper[s])

    def old_alone(self, r, s, names):
        """How the old row alone goes on: the same as of both; or None."""
        row = self.old_rows[r]
        if row[0] == "let":
            return ([(r + 1, s)], without_old(names, row[1]))
        if row[0] == "go":
            return ([(row[1], s)], list(names))
        if row[0] == "mark" or self.is_lost_put(r):
            return ([(r + 1, s)], list(names))
        return None

    def is_lost_put(self, r):
        """Whether an old row is a put of a box that the new program lacks."""
        row = self.old_rows[r]
        return row[0] == "put" and row[1] not in self.turning.behind[1]


def without_new(names, new):
    """The pairs of names but those of a new name."""
    return [pair for pair in names if pair[0] != new]


def without_old(names, old):
    """The pairs of names but those whose terms have an old name."""
    return [pair for pair in names if old not in names_within(pair[1])]


def _by_takes(part, terms):
    """A dict from a part's takes to the terms that are handed over for them, or None."""
    takes = [take for take, _ in part[0]]
    return dict(zip(takes, terms)) if len(takes) == len(terms) else None
