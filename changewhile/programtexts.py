"""The texts of programs, line by line."""

from changewhile.errors import NoText
from changewhile.kinds import kind_text, read_kind
from changewhile.programs import is_program
from changewhile.rows import read_row, row_text
from changewhile.values import read_value, value_text

ROW_AHEAD = "  "


def program_text(program):
    """The text of a program."""
    return text_of_lines(program_lines(program))


def text_of_lines(lines):
    """The text of lines, a line feed behind each."""
    return "".join([line + "\n" for line in lines])


def program_lines(program):
    """A list of the lines of a program's text."""
    kinds, boxes, parts = program
    lines = [_kind_line(name, kinds[name]) for name in sorted(kinds)]
    lines.extend([_box_line(name, boxes[name]) for name in sorted(boxes)])
    for name in sorted(parts):
        lines.extend(_part_lines(name, parts[name]))
    return lines


def _kind_line(name, fields):
    if not fields:
        return "kind " + name
    return "kind " + name + " " + _pairs_text(fields)


def _box_line(name, box):
    return "box " + name + " " + kind_text(box[0]) + " = " + value_text(box[1])


def _part_lines(name, part):
    takes, gives, rows = part
    head = "part " + name + " (" + _pairs_text(takes) + ") " + kind_text(gives)
    return [head] + [ROW_AHEAD + row_text(row) for row in rows]


def _pairs_text(pairs):
    return ", ".join([name + " " + kind_text(kind) for name, kind in pairs])


def read_program(text):
    """The program of a text; else NoText, of anything."""
    program = program_of(lines_of(text))
    if not is_program(program) or program_text(program) != text:
        raise NoText("not the text of a program")
    return program


def lines_of(text):
    """A list of the lines of a text, without what stands behind the last line feed; else NoText, of anything."""
    if not isinstance(text, str):
        raise NoText("not a text")
    return text.split("\n")[:-1]


def program_of(lines):
    """The program, perhaps none, of lines; the caller is to hold it against their text."""
    kinds = {}
    boxes = {}
    parts = {}
    for head, body in _entries(lines):
        word, _, rest = head.partition(" ")
        name, _, told = rest.partition(" ")
        if word == "kind":
            kinds[name] = _pairs_of(told)
        elif word == "box":
            boxes[name] = _box_of(told)
        elif word == "part":
            parts[name] = _part_of(told, body)
        else:
            raise NoText("no word that a line begins with")
    return (kinds, boxes, parts)


def _entries(lines):
    """Pairs of a line that begins a kind, a box or a part, and the list of the rows behind it."""
    found = []
    for line in lines:
        if found and line.startswith(ROW_AHEAD):
            found[-1][1].append(line[len(ROW_AHEAD):])
        else:
            found.append((line, []))
    return found


def _part_of(text, body):
    takes, _, gives = text.removeprefix("(").partition(") ")
    rows = [read_row(line) for line in body]
    return (_pairs_of(takes), read_kind(gives), tuple(rows))


def _pairs_of(text):
    if not text:
        return ()
    return tuple([_pair_of(piece) for piece in text.split(", ")])


def _pair_of(text):
    name, _, kind = text.partition(" ")
    return (name, read_kind(kind))


def _box_of(text):
    kind, _, value = text.partition(" = ")
    return (read_kind(kind), read_value(value))
