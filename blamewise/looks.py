"""Looks: how they are made from one kind to another, and what they weigh."""

from blamewise.kinds import UNTOLD, ground, kinds_in, steps

# Where in a look its ask, its body and its tag stand.
ASK = 0
BODY = 1
TAG = 2

SAME = ("same",)
STILL = (None, ("same",), None)

OTHER_SIDE = {"in": "out", "out": "in"}


def made(kind, other, place):
    """The look from a kind to another one, at a place."""
    return going(kind, other, (place, "in", ()))


def going(kind, other, label):
    """The look from a kind to another one, with the label for its ask or its tag."""
    if kind == UNTOLD and other == UNTOLD:
        return STILL
    if kind == UNTOLD:
        base = ground(other)
        return ((base, label), body_between(base, other, label), None)
    if other == UNTOLD:
        base = ground(kind)
        return (None, body_between(kind, base, label), (base, label))
    return (None, body_between(kind, other, label), None)


def body_between(kind, other, label):
    """The body of the look between two told kinds."""
    found = []
    for step, inner, beside in zip(steps(kind), kinds_in(kind), kinds_in(other)):
        beyond = label_beyond(label, step)
        if step == "arg":
            # An argument comes from the other side: it has the other kind first.
            found.append(going(beside, inner, beyond))
        else:
            found.append(going(inner, beside, beyond))
    return body_with(kind[0], found)


def label_beyond(label, step):
    """The label one step further on the way."""
    side = OTHER_SIDE[label[1]] if step == "arg" else label[1]
    return (label[0], side, label[2] + (step,))


def body_with(head, some):
    """The body with these looks, the same one for all that do nothing."""
    if all([look == STILL for look in some]):
        return SAME
    return (head,) + tuple(some)


def is_broken(look):
    """True where the look's body is broken."""
    return look[BODY][0] == "broken"


def looks_within(look):
    """The looks right within the look's body."""
    if is_broken(look):
        return []
    return list(look[BODY][1:])


def weight(look):
    """How many asks, tags and broken bodies the look has, in itself and within."""
    own = [look[ASK] is not None, look[TAG] is not None, is_broken(look)]
    return own.count(True) + sum([weight(inner) for inner in looks_within(look)])


def height(look):
    """1 for a look without looks within, else 1 more than the greatest height of these."""
    return 1 + max([height(inner) for inner in looks_within(look)], default=0)


def allowed(depth):
    """The greatest weight that this depth allows."""
    most = 2
    for further in range(depth - 1):
        most = 2 * most + 2
    return most
