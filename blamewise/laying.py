"""Two looks, one right behind the other, laid together to one."""

from blamewise.looks import ASK, BODY, SAME, TAG, body_with, is_broken


def laid(one, other):
    """The look that does what one does and then other."""
    if is_broken(one):
        return one
    if one[TAG] is None:
        # Where the second asks, the first leads to an untold kind without a tag: it does nothing.
        return both(one, other) if other[ASK] is None else other
    if other[ASK] is None:
        return one
    if one[TAG][0] == other[ASK][0]:
        return both(one, other)
    return (one[ASK], ("broken", one[TAG], other[ASK]), None)


def both(one, other):
    """Two looks laid together where the tag and the ask between them, if any, fit."""
    body = laid_bodies(one[BODY], other[BODY])
    tag = None if body[0] == "broken" else other[TAG]
    return (one[ASK], body, tag)


def laid_bodies(body, other):
    """Two bodies laid together, the first of which isn't broken."""
    if body == SAME:
        return other
    if other == SAME:
        return body
    if other[0] == "broken":
        return other
    return body_with(body[0], laid_parts(body, other))


def laid_parts(body, other):
    """The looks in two bodies laid together, one by one."""
    if body[0] == "to":
        # An argument meets the second body first.
        return [laid(other[1], body[1]), laid(body[2], other[2])]
    return [laid(inner, beside) for inner, beside in zip(body[1:], other[1:])]
