"""Values as the runs hold them, what stands beside them, and how they are given to looks."""

from blamewise.laying import laid_bodies
from blamewise.looks import ASK, BODY, SAME, TAG, is_broken


class Ended(Exception):
    """The run has come to its end, with this answer."""

    def __init__(self, outcome):
        self.outcome = outcome


class Value:
    """A value: its head, what it holds, its guards with the innermost first, its tag or None.

    The head is that of its kind. A number or a truth is held as it is, the things of a row or
    a pair as a tuple of values, a function as a tuple of its node and the names round it."""

    def __init__(self, head, held, guards, tag):
        self.head = head
        self.held = held
        self.guards = guards
        self.tag = tag


class Giver:
    """Gives values to looks; keeps how many calls are left, and notes of what stands beside values."""

    def __init__(self, calls, together):
        self.left = calls
        self.together = together
        self.notes = []

    def give(self, value, look):
        """The value as the look leaves it."""
        tag = value.tag
        if look[ASK] is not None:
            need_ground(tag, look[ASK])
            tag = None
        if is_broken(look):
            end_in_blame(look[BODY][1], look[BODY][2])
        if look[TAG] is not None:
            tag = look[TAG]
        behind = Value(value.head, value.held, self.guards_with(value.guards, look[BODY]), tag)
        if look[BODY] != SAME or look[TAG] is not None:
            self.note(behind)
        return behind

    def give_all(self, value, some):
        """The value as these looks leave it, the first one first."""
        behind = value
        for look in some:
            behind = self.give(behind, look)
        return behind

    def give_in_call(self, argument, function):
        """The argument as the function gets it, with one call less left, or the end where none is left."""
        if self.left < 1:
            raise Ended(("spent",))
        self.left -= 1
        return self.give_all(argument, list(reversed(looks_beside(function, 1))))

    def guards_with(self, guards, body):
        """The guards with one more, the outermost one."""
        if body == SAME:
            return guards
        if not self.together or guards == ():
            return guards + (body,)
        both = laid_bodies(guards[-1], body)
        return () if both == SAME else (both,)

    def note(self, value):
        """Keeps what stands beside the value, where something does."""
        outermost = value.guards[-1] if value.guards else None
        if outermost is not None or value.tag is not None:
            self.notes.append((len(value.guards), outermost, value.tag))


def alone(head, held):
    """The value with nothing beside it."""
    return Value(head, held, (), None)


def need_ground(tag, ask):
    """Ends the run where the value's tag has another ground than the one asked for."""
    if tag[0] != ask[0]:
        end_in_blame(tag, ask)


def end_in_blame(tag, ask):
    """Ends the run in the blame by this tag and this ask."""
    raise Ended(("blame", ask[1], ask[0], tag[1], tag[0]))


def looks_beside(value, number):
    """The looks of this part, from 1 on, in the guards beside the value, from the innermost out."""
    return [body[number] for body in value.guards]
