"""What the readers of all texts share.

Each reader first makes a thing of a text without much care, and then holds the
text against the thing's own text: so it reads just what is such a text, sign by
sign. What is here is the careless half.
"""

from changewhile.errors import NoText

# No run of a program of the promised sizes builds values or kinds this deep, and
# thousands of brackets within one another are to be refused.
DEEPEST = 800

# Python refuses to read numbers of some thousand figures.
LONGEST = 900


def is_figures(text):
    """Whether a text is the figures of a whole number from 0 on, without needless noughts."""
    return text.isascii() and text.isdigit() and (text == "0" or text[0] != "0")


def read_figures(text):
    """The whole number of such figures; else NoText, of anything."""
    if not isinstance(text, str) or not is_figures(text) or len(text) > LONGEST:
        raise NoText("not the figures of a whole number")
    return int(text)


def side_by_side(text, opening, closing, close):
    """The words of a text, each pair of brackets with what is within made one thing by close.

    close gets a list of words and of things that it made itself. A closing bracket
    without an opening one stays a word; what stands behind an opening one that is
    never closed is left out.
    """
    rows = [[]]
    spaced = text.replace(opening, " " + opening + " ").replace(closing, " " + closing + " ")
    for word in spaced.split():
        if word == opening:
            rows.append([])
        elif word == closing and len(rows) > 1:
            within = rows.pop()
            rows[-1].append(close(within))
        else:
            rows[-1].append(word)
        if len(rows) > 1 + DEEPEST:
            raise NoText("brackets too deep within one another")
    return rows[0]
