"""States of runs: how they begin and go on, and whether they fit a program."""

from changewhile.errors import Stuck
from changewhile.papers import is_paper, reads
from changewhile.runs import Run, frame_at_first
from changewhile.standing import DEAD
from changewhile.values import is_of


def begun(program, name, values):
    """The state at which a run of a part begins with such values for its takes; else Stuck."""
    _, boxes, parts = program
    if name not in parts or not _are_for_takes(parts[name][0], values):
        raise Stuck(name, -1)
    frame = frame_at_first(name, parts[name], values)
    return ({box: boxes[box][1] for box in boxes}, {}, (frame,), (), None)


def _are_for_takes(takes, values):
    """Whether plain values are as many as takes, each of its take's kind."""
    if len(values) != len(takes):
        return False
    return all([is_of(kind, value, {}) for (_, kind), value in zip(takes, values)])


def stepped(program, state):
    """The state behind a step; else Stuck."""
    return run_on(program, state, 1)


def run_on(program, state, many):
    """The state behind so many steps, or at the end; else Stuck."""
    run = Run(program, state)
    for _ in range(many):
        if run.end is not None:
            break
        run.step()
    return run.state()


def fits(program, state, papers):
    """Whether a state fits a program by papers, one for each frame, or by any where it has ended."""
    boxes, records, frames, _, end = state
    if not _do_boxes_fit(program, boxes, records) or not _do_records_fit(program, records):
        return False
    return end is not None or _do_frames_fit(program, frames, records, papers)


def _do_boxes_fit(program, boxes, records):
    if sorted(boxes) != sorted(program[1]):
        return False
    return all([is_of(program[1][box][0], boxes[box], records) for box in boxes])


def _do_records_fit(program, records):
    if not all(["r" + str(k) in records for k in range(len(records))]):
        return False
    return all([_does_record_fit(program, records[ref], records) for ref in records])


def _does_record_fit(program, record, records):
    if record == DEAD:
        return True
    name, pairs = record
    if name not in program[0] or [field for field, _ in pairs] != [field for field, _ in program[0][name]]:
        return False
    kinds = dict(program[0][name])
    return all([is_of(kinds[field], value, records) for field, value in pairs])


def _do_frames_fit(program, frames, records, papers):
    if not isinstance(papers, tuple) or len(papers) != len(frames):
        return False
    if not _are_read(program, [frame[1] for frame in frames], papers):
        return False
    for k in range(len(frames) - 1):
        if not _does_caller_fit(frames[k], papers[k], frames[k + 1][1][1], records):
            return False
    return _does_last_fit(frames[-1], papers[-1], records)


def _are_read(program, parts, papers):
    """Whether all of as many things as parts are papers of these and read."""
    # Many frames may be of one part, by one paper: it is gone through once. Only what
    # surely is a paper is compared, as anything else may not be comparable.
    known = []
    for part, paper in zip(parts, papers):
        if not is_paper(part, paper):
            return False
        if (part, paper) not in known:
            if not reads(program, part, paper):
                return False
            known.append((part, paper))
    return True


def _does_last_fit(frame, paper, records):
    _, part, row, held = frame
    if part[2][row][0] == "mark":
        row += 1
    return paper[row] is not None and _are_held(paper[row], held, records)


def _does_caller_fit(frame, paper, given, records):
    """Whether a frame fits that waits for what the next one gives, which is of such a kind."""
    _, part, row, held = frame
    if part[2][row][0] != "call" or paper[row + 1] is None:
        return False
    name = part[2][row][1]
    told = dict(paper[row + 1])
    if name in told and told[name] != given:
        return False
    return _are_held([pair for pair in paper[row + 1] if pair[0] != name], held, records)


def _are_held(holding, held, records):
    """Whether each name of a holding is held, with a value of its kind."""
    return all([name in held and is_of(kind, held[name], records) for name, kind in holding])
