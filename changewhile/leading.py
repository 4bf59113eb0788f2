"""States led over by changes."""

from changewhile.standing import Standing


def led(program, change, state):
    """The state behind a change of a program, all led over at once, its frames as they were."""
    boxes, records, frames, words, end = state
    standing = Standing(boxes, records)
    standing.lead_over(program, change, "once")
    kept = [(name, part, row, dict(held)) for name, part, row, held in frames]
    return (*standing.all_led(), tuple(kept), words, end)
