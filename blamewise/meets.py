"""Two kinds beside each other: whether they part, and what both tell."""

from blamewise.kinds import UNTOLD, kinds_in, steps, with_kinds


def same(kind, other):
    """True where the kinds are the same but for what is untold."""
    return parting(kind, other) is None


def parting(kind, other):
    """The first way that leads in both to told kinds with unlike heads, or None."""
    if kind == UNTOLD or other == UNTOLD:
        return None
    if kind[0] != other[0]:
        return ()
    for step, inner, beside in zip(steps(kind), kinds_in(kind), kinds_in(other)):
        way = parting(inner, beside)
        if way is not None:
            return (step,) + way
    return None


def looser(kind, other):
    """True where other is looser than kind, or equal."""
    if other == UNTOLD:
        return True
    if kind[0] != other[0]:
        return False
    return all([looser(inner, beside) for inner, beside in zip(kinds_in(kind), kinds_in(other))])


def meet(kind, other):
    """The loosest kind that tells what either tells, or None where they part."""
    if not same(kind, other):
        return None
    return both_told(kind, other)


def both_told(kind, other):
    """The meet of two kinds that don't part."""
    if kind == UNTOLD:
        return other
    if other == UNTOLD:
        return kind
    return with_kinds(kind, [both_told(inner, beside) for inner, beside in zip(kinds_in(kind), kinds_in(other))])


def join(kind, other):
    """The most told kind that is looser than both."""
    if kind[0] != other[0]:
        return UNTOLD
    return with_kinds(kind, [join(inner, beside) for inner, beside in zip(kinds_in(kind), kinds_in(other))])
