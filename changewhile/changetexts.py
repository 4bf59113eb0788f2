"""The texts of changes, line by line."""

from changewhile.changes import is_change
from changewhile.errors import NoText
from changewhile.programtexts import lines_of, program_lines, program_of, text_of_lines
from changewhile.rows import fields_of, fields_text, read_groups
from changewhile.terms import term_of, term_text

OUT_AHEAD = "out "
LEAD_AHEAD = "lead "


def change_text(change):
    """The text of a change."""
    outs, kinds, boxes, parts, kindleads, boxleads = change
    lines = [OUT_AHEAD + name for name in outs]
    lines.extend(program_lines((kinds, boxes, parts)))
    lines.extend([_kindleads_line(name, kindleads[name]) for name in sorted(kindleads)])
    lines.extend([LEAD_AHEAD + box + " " + term_text(boxleads[box]) for box in sorted(boxleads)])
    return text_of_lines(lines)


def _kindleads_line(name, leads):
    if not leads:
        return LEAD_AHEAD + name
    return LEAD_AHEAD + name + " " + fields_text(leads)


def read_change(text):
    """The change of a text; else NoText, of anything."""
    change = _change_of(lines_of(text))
    if not is_change(change) or change_text(change) != text:
        raise NoText("not the text of a change")
    return change


def _change_of(lines):
    """The change, perhaps none, of lines, in whichever order its outs, its program and its leads stand."""
    outs = [line.removeprefix(OUT_AHEAD) for line in lines if line.startswith(OUT_AHEAD)]
    leads = [line.removeprefix(LEAD_AHEAD) for line in lines if line.startswith(LEAD_AHEAD)]
    rest = [line for line in lines if not line.startswith(OUT_AHEAD) and not line.startswith(LEAD_AHEAD)]
    kindleads, boxleads = _leads_of(leads)
    return (tuple(outs), *program_of(rest), kindleads, boxleads)


def _leads_of(texts):
    """The leads of kinds and those of boxes, perhaps none, by what stands behind the names."""
    kindleads = {}
    boxleads = {}
    for text in texts:
        name, _, told = text.partition(" ")
        groups = read_groups(told)
        if len(groups) == 1 and len(groups[0]) == 1:
            boxleads[name] = term_of(groups[0][0])
        else:
            kindleads[name] = fields_of(groups)
    return kindleads, boxleads
