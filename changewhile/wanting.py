"""Which names are wanted behind each row of a part: those on which something depends that is said or kept."""

from changewhile.rows import next_rows
from changewhile.terms import names_within


class Wanting:
    """What the rows of old and new parts want, by a turning and the takes' pairs of the paired parts."""

    def __init__(self, turning, takes):
        self.turning = turning
        self.takes = takes

    def of_old(self, rows):
        """For each row of an old part, a dict of the names wanted behind it."""
        return _wanted_behind(rows, [self._old_terms(row) for row in rows])

    def of_new(self, rows, free_writes):
        """For each row of a new part, a dict of the names wanted behind it; of each row it is told if it is free."""
        return _wanted_behind(rows, [[] if is_free else self.new_terms(row)
                                     for row, is_free in zip(rows, free_writes)])

    def _old_terms(self, row):
        """The terms of an old row that are wanted whatever comes behind."""
        word = row[0]
        if word == "put":
            return [row[2]] if row[1] in self.turning.behind[1] else []
        if word == "new":
            return [term for field, term in row[3] if field in self._sources(row[2])]
        if word == "call" and row[2] in self.takes:
            names = [name for _, term in self.takes[row[2]] for name in names_within(term)]
            return _handed_over(self.turning.ahead[2][row[2]], row, names)
        return _all_terms(row)

    def new_terms(self, row):
        """The terms of a new row, no write of what is free, that are wanted whatever comes behind."""
        word = row[0]
        if word == "put":
            return [row[2]]
        if word == "new":
            return [term for field, term in row[3] if not self.turning.is_free_field(row[2], field)]
        if word == "call" and row[2] in self.takes:
            return _handed_over(self.turning.behind[2][row[2]], row, [take for take, _ in self.takes[row[2]]])
        return _all_terms(row)

    def _sources(self, kind):
        """The old fields of a kind of which something comes that is not free."""
        found = []
        for field, _ in self.turning.behind[0].get(kind, ()):
            if not self.turning.is_free_field(kind, field):
                found.extend(self.turning.sources_of(kind, field))
        return found


def _handed_over(part, row, names):
    """The terms that a call hands over for such takes of a part."""
    return [term for (take, _), term in zip(part[0], row[3]) if take in names]


def _all_terms(row):
    """The terms of a row, but for those of a let, whose name is perhaps not wanted."""
    word = row[0]
    if word in ("tell", "back", "unless"):
        return [row[1]]
    if word == "set":
        return [row[1], row[3]]
    if word == "call":
        return list(row[3])
    return []


def _wanted_behind(rows, terms):
    """For each row a dict of the names wanted behind it, where each row wants such terms whatever comes."""
    ahead = [{} for _ in rows]
    behind = [{} for _ in rows]
    todo = list(range(len(rows)))
    leading_to = _rows_ahead(rows)
    while todo:
        r = todo.pop()
        wanted = {name: True for n in next_rows(rows, r) for name in ahead[n]}
        behind[r] = wanted
        names = [one for term in terms[r] for one in names_within(term)]
        if rows[r][0] == "let" and rows[r][1] in wanted:
            names.extend(names_within(rows[r][2]))
        gives = rows[r][1] if rows[r][0] in ("let", "new", "call") else ""
        names.extend([one for one in wanted if one != gives])
        here = {name: True for name in names}
        if len(here) > len(ahead[r]):
            ahead[r] = here
            todo.extend(leading_to[r])
    return behind


def _rows_ahead(rows):
    """For each row a list of the rows to which it is next."""
    found = [[] for _ in rows]
    for r in range(len(rows)):
        for n in next_rows(rows, r):
            found[n].append(r)
    return found
