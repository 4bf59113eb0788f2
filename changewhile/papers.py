"""Papers: what is held ahead of each row of a part; and what they tell about whole programs."""

from changewhile.errors import NotRight
from changewhile.kinding import is_right, is_there, leaves
from changewhile.programs import is_fields
from changewhile.rows import next_rows
from changewhile.values import is_of


def grown(program, part, row, holding):
    """The paper of a part that is grown from a row and a holding."""
    rows = part[2]
    paper = [None] * len(rows)
    paper[row] = holding
    todo = [row]
    while todo:
        r = todo.pop()
        left = leaves(rows[r], paper[r], program)
        for n in next_rows(rows, r):
            both = left if paper[n] is None else _in_common(paper[n], left)
            if both != paper[n]:
                paper[n] = both
                todo.append(n)
    return tuple(paper)


def _in_common(one, other):
    """The pairs that stand in both of two holdings."""
    kinds = dict(other)
    return tuple([(name, kind) for name, kind in one if name in kinds and kinds[name] == kind])


def wrong_rows(program, part, paper):
    """The numbers of the rows that are wrong in a paper's holdings, rising."""
    rows = part[2]
    return [r for r, holding in enumerate(paper)
            if holding is not None and not is_right(rows[r], holding, program, part)]


def reads(program, part, paper):
    """Whether a thing is a paper of a part that is read in a program."""
    if not is_paper(part, paper):
        return False
    for r, holding in enumerate(paper):
        if holding is not None and not _is_read_at(program, part, paper, r):
            return False
    return True


def is_paper(part, thing):
    """Whether a thing is a paper of a part."""
    if not isinstance(thing, tuple) or len(thing) != len(part[2]):
        return False
    # A holding is, as fields are, a sorted tuple of pairs of unlike names and kinds.
    return all([holding is None or is_fields(holding) for holding in thing])


def _is_read_at(program, part, paper, r):
    """Whether a paper is read at a row that has a holding."""
    row = part[2][r]
    if not are_there([kind for _, kind in paper[r]], program):
        return False
    if not is_right(row, paper[r], program, part):
        return False
    left = leaves(row, paper[r], program)
    return all([paper[n] is not None and _in_common(paper[n], left) == paper[n] for n in next_rows(part[2], r)])


def are_there(kinds, program):
    """Whether all of a list of kinds are there in a program."""
    return all([is_there(kind, program) for kind in kinds])


def papers_of(program):
    """A dict from the names of a program's parts to their papers, grown from row 0; else NotRight."""
    papers = own_papers(program)
    refuse_first(faults_of(program, papers))
    return papers


def own_papers(program):
    """The same of a program that is perhaps not right."""
    parts = program[2]
    return {name: grown(program, parts[name], 0, tuple(sorted(parts[name][0]))) for name in parts}


def faults_of(program, papers):
    """A list of the pairs (name, row) at which a program with such papers is not right."""
    kinds, boxes, parts = program
    found = [(name, -1) for name in kinds if not are_there([kind for _, kind in kinds[name]], program)]
    found.extend([(name, -1) for name in boxes if not _is_box_right(boxes[name], program)])
    for name in parts:
        takes, gives, _ = parts[name]
        if not are_there([kind for _, kind in takes] + [gives], program):
            found.append((name, -1))
        found.extend([(name, r) for r in wrong_rows(program, parts[name], papers[name])])
    return found


def _is_box_right(box, program):
    kind, value = box
    return is_there(kind, program) and is_of(kind, value, {})


def refuse_first(faults):
    """Refuse a program for the first of its faults, pairs (name, row), where it has one."""
    if faults:
        name, row = min(faults)
        raise NotRight(name, row)
