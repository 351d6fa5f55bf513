"""Values given to looks, one look after the other: what laying looks together must not change.

A value is a tuple (tag or None, guards, raw). A raw thing is a tuple of its head and what is
in it: a number, a truth, the things of a row or a pair, the one value that a function gives."""

from tests.counting import Counting
from tests.many_kinds import TRUTH, UNTOLD, WHOLE

GROUNDS = [WHOLE, TRUTH, ("to", UNTOLD, UNTOLD), ("row", UNTOLD), ("pair", UNTOLD, UNTOLD)]


class Blamed(Exception):
    """A look failed: with its ask and the value's tag."""


def value_of(kind, rule):
    """Some value of this kind; what is untold in it bears tags with labels of its own."""
    if kind == UNTOLD:
        ground = rule.one_of(GROUNDS[:2] + GROUNDS)
        return ((ground, (8000 + rule.below(1000), "in", ())), [], value_of(ground, rule)[2])
    if kind == WHOLE:
        return (None, [], ("whole", rule.below(10)))
    if kind == TRUTH:
        return (None, [], ("truth", rule.happens(50)))
    things = {"to": kind[2:], "row": kind[1:] * 2, "pair": kind[1:]}[kind[0]]
    return (None, [], (kind[0], [value_of(part, rule) for part in things]))


def given(value, looks):
    """The value given to the looks, the first one first."""
    tag, guards, raw = value
    guards = list(guards)
    for ask, body, new_tag in looks:
        if ask is not None:
            if tag[0] != ask[0]:
                raise Blamed(ask, tag)
            tag = None
        if body[0] == "broken":
            raise Blamed(body[2], body[1])
        if body != ("same",):
            guards.append(body)
        tag = tag if new_tag is None else new_tag
    return (tag, guards, raw)


def seen(value, looks, kind, way="way"):
    """All that can be seen of a value given to the looks, the last of which leads to this kind.

    Each part is read out and each function called; where kind is None functions are not called.
    The way tells one question from another, so that each has the same argument every time."""
    try:
        tag, guards, raw = given(value, looks)
    except Blamed as blame:
        return ("blame",) + blame.args
    if raw[0] in ("whole", "truth"):
        return (tag, raw)
    ground = tag[0] if kind == UNTOLD else kind
    numbers = {"to": [2], "row": [1, 1], "pair": [1, 2]}[raw[0]]
    found = [seen(thing, [guard[k] for guard in guards], ground and ground[k], way + f" {k}")
             for k, thing in zip(numbers, raw[1])]
    if raw[0] == "to" and ground is not None:
        argument = value_of(ground[1], Counting(sum(ord(sign) * 31 ** place for place, sign in enumerate(way))))
        found.append(seen(argument, [guard[1] for guard in reversed(guards)], None, way + " 1"))
    return (tag, raw[0], found)
