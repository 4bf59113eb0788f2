"""New terms turned into old ones: what they are worth behind a change, told by what was ahead of it."""

from changewhile.changes import OLD_VALUE
from changewhile.kinding import kind_of
from changewhile.terms import folded, names_within, with_names, with_parts


class Turning:
    """How the terms of the program behind a change are turned, where some boxes and fields are free."""

    def __init__(self, program, behind, change, free):
        self.ahead = program
        self.behind = behind
        self.kind_leads = {name: dict(change[4][name]) for name in change[4]}
        self.box_leads = change[5]
        self.free = free

    def is_free_field(self, kind, field):
        """Whether nothing is paired to a field of the new program."""
        return (kind, field) in self.free

    def is_free_box(self, box):
        """Whether nothing is paired to a box of the new program."""
        return box in self.free

    def is_free_write(self, row, holding):
        """Whether a new row, ahead of which a holding is, is a put of a free box or a set of a free field."""
        if row[0] == "put":
            return self.is_free_box(row[1])
        if row[0] != "set" or holding is None:
            return False
        kind = kind_of(row[1], holding, self.behind)
        return kind is not None and kind[0] == "record" and self.is_free_field(kind[1], row[2])

    def box_led(self, box, term):
        """What a box is led to by the change, where a term is its old value."""
        if box not in self.box_leads:
            return term
        return with_names(self.box_leads[box], {OLD_VALUE: term})

    def field_led(self, kind, field, terms):
        """What a field of a record is led to, where terms are its old fields' values, by their names; or None."""
        leads = self.kind_leads.get(kind, {})
        if field in leads:
            return with_names(leads[field], terms)
        return terms.get(field)

    def sources_of(self, kind, field):
        """The names of the old fields of which a new field comes."""
        leads = self.kind_leads.get(kind, {})
        return names_within(leads[field]) if field in leads else [field]

    def turned(self, term, names, holding):
        """A new term turned by names, a dict to old terms, where a holding is ahead of the old row; or None."""
        return folded(term, lambda one, parts: self._turned_over(one, parts, names, holding))

    def _turned_over(self, term, parts, names, holding):
        """A term turned, the terms right within it having been turned to such ones; or None."""
        if None in parts:
            return None
        if term[0] == "name":
            return names.get(term[1])
        if term[0] == "box":
            if self.is_free_box(term[1]) or term[1] not in self.ahead[1]:
                return None
            return self.box_led(term[1], term)
        if term[0] == "field":
            return self._turned_field(parts[0], term[2], holding)
        return with_parts(term, parts) if parts else term

    def _turned_field(self, record, field, holding):
        """A new field of a record that an old term is, turned; or None."""
        kind = self.record_kind(record, holding)
        if kind is None or self.is_free_field(kind, field):
            return None
        return self.field_led(kind, field, self.fields_of(kind, record))

    def record_kind(self, term, holding):
        """The name of the kind of the records that an old term is worth, or None."""
        kind = kind_of(term, holding, self.ahead)
        return kind[1] if kind is not None and kind[0] == "record" else None

    def fields_of(self, kind, record):
        """A dict from the old fields of a kind to the terms of these of a record."""
        return {field: ("field", record, field) for field, _ in self.ahead[0][kind]}
