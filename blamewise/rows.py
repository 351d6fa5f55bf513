"""The things of rows and pairs, read out, and the texts of values."""

from blamewise.values import looks_beside

# Things beyond this level are neither read nor shown.
MOST_LEVEL = 3


def thing_of(value, index, giver):
    """The thing at the index of a row or a pair, given to the looks of that part beside it."""
    number = index + 1 if value.head == "pair" else 1
    return giver.give_all(value.held[index], looks_beside(value, number))


def text_of(value, giver):
    """The text of the value that a run comes to."""
    return shown(value, 1, giver)


def shown(value, level, giver):
    """The text of a value at this level."""
    if value.head == "whole":
        return str(value.held)
    if value.head == "truth":
        return "yes" if value.held else "no"
    if value.head == "to":
        return "fn"
    # Reading may end the run, so each thing is shown wholly ahead of the next one.
    texts = [thing_shown(value, index, level + 1, giver) for index in range(len(value.held))]
    within = " ".join(texts)
    return f"[{within}]" if value.head == "row" else f"<{within}>"


def thing_shown(value, index, level, giver):
    """The text of the thing at the index, which is at this level."""
    if level > MOST_LEVEL:
        return ".."
    return shown(thing_of(value, index, giver), level, giver)
