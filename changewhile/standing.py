"""What stands while a run goes on: boxes and records, some of them asleep till they are touched."""

from changewhile.changes import OLD_VALUE
from changewhile.reckoning import found, worth

DEAD = ("", ())


class Standing:
    """Boxes and records. Those asleep are as they were ahead of changes whose leads wait for them."""

    def __init__(self, boxes, records):
        self.boxes = dict(boxes)
        self.records = dict(records)
        # Of each box that sleeps, the leads that wait for it, in their order.
        self.box_leads = {}
        # What each change by touching told of kinds: a dict from names to pairs (fields, leads);
        # and of each record that sleeps, how many of these it has gone through.
        self.kind_leads = []
        self.gone_through = {}

    def box(self, name):
        """The value of a box, which is touched; else Stuck."""
        if name in self.box_leads:
            self.boxes[name] = self._box_led(name)
            del self.box_leads[name]
        return found(self.boxes, name)

    def put(self, name, value):
        """Give a box, which is touched, another value."""
        self.boxes[name] = value
        self.box_leads.pop(name, None)

    def record(self, ref):
        """What a ref is in the records, touched; else Stuck."""
        if ref in self.gone_through:
            self.records[ref] = self._record_led(ref)
            del self.gone_through[ref]
        return found(self.records, ref)

    def _box_led(self, name):
        value = self.boxes[name]
        for lead in self.box_leads.get(name, ()):
            value = led_value(lead, value)
        return value

    def _record_led(self, ref):
        name, pairs = self.records[ref]
        if ref in self.gone_through:
            for told in self.kind_leads[self.gone_through[ref]:]:
                if name in told:
                    fields, leads = told[name]
                    pairs = led_pairs(fields, leads, pairs)
        return (name, pairs)

    def all_led(self):
        """The boxes and the records, all led over, in dicts of their own; this wakes nothing."""
        boxes = {name: self._box_led(name) for name in self.boxes}
        return (boxes, {ref: self._record_led(ref) for ref in self.records})

    def asleep(self):
        """The names of the boxes and the refs that sleep, sorted."""
        return sorted([*self.box_leads, *self.gone_through])

    def lead_over(self, program, change, way):
        """Lead over, by a change of a program, what stands: at once, or by way "touch" when it is touched."""
        self._take_out(change[0])
        told = _told_of_kinds(program, change)
        if way == "touch":
            self._send_to_sleep(program, change, told)
        else:
            self._lead_at_once(program, change, told)
        for box in change[2]:
            if box not in program[1]:
                self.put(box, change[2][box][1])

    def _take_out(self, outs):
        for ref in list(self.records):
            if self.records[ref][0] in outs:
                self.records[ref] = DEAD
                self.gone_through.pop(ref, None)
        for name in outs:
            self.boxes.pop(name, None)
            self.box_leads.pop(name, None)

    def _lead_at_once(self, program, change, told):
        for ref in list(self.records):
            name = self.records[ref][0]
            if name in told:
                fields, leads = told[name]
                self.records[ref] = (name, led_pairs(fields, leads, self.record(ref)[1]))
        for box in change[2]:
            if box in program[1]:
                self.put(box, self.box(box))
                if box in change[5]:
                    self.put(box, led_value(change[5][box], self.boxes[box]))

    def _send_to_sleep(self, program, change, told):
        sleepy = {name: told[name] for name in told if told[name][1] or told[name][0] != _fields(program[0][name])}
        for ref in self.records:
            if self.records[ref][0] in sleepy and ref not in self.gone_through:
                self.gone_through[ref] = len(self.kind_leads)
        self.kind_leads.append(sleepy)
        for box in change[5]:
            self.box_leads[box] = (*self.box_leads.get(box, ()), change[5][box])


def _told_of_kinds(program, change):
    """A dict from the names of the kinds put anew to pairs: the names of their fields, a dict of the leads."""
    return {name: (_fields(change[1][name]), dict(change[4].get(name, ())))
            for name in change[1] if name in program[0]}


def _fields(pairs):
    """The names of fields."""
    return [field for field, _ in pairs]


def led_value(lead, value):
    """The value of a box led over."""
    return worth(lead, {OLD_VALUE: value}, {}, {})


def led_pairs(fields, leads, pairs):
    """A record's pairs led over: for each field its lead's worth by the old values, or the old value; else Stuck."""
    old = dict(pairs)
    return tuple([(field, worth(leads[field], old, {}, {}) if field in leads else found(old, field))
                  for field in fields])
