"""Rests: what of a part is still to come behind a mark or a call, held against another program."""

from changewhile.papers import are_there, grown, wrong_rows


def beginning(row, holding, given):
    """What is held behind a row, a mark or a call, at which a holding is: a call's name is of the kind given."""
    if row[0] != "call":
        return holding
    return tuple(sorted([pair for pair in holding if pair[0] != row[1]] + [(row[1], given)]))


def rest_of(behind, part, r, holding):
    """The rest of a part behind its row r, begun with a holding, by the program behind a change.

    A pair: the paper (None where a kind of the holding is not there), and the first wrong row or None.
    """
    if not are_there([kind for _, kind in holding], behind):
        return (None, r)
    paper = grown(behind, part, r + 1, holding)
    wrong = wrong_rows(behind, part, paper)
    return (paper, wrong[0] if wrong else None)
