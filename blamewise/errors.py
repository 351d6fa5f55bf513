"""The refusals of the program, one class for each."""


class BlameError(ValueError):
    """Any refusal."""


class NoText(BlameError):
    """The text is no program, or no kind."""


class NoPart(BlameError):
    """A step of a way doesn't fit the kind."""


class TooMany(BlameError):
    """The program has too many spots to go all ways."""


class NoName(BlameError):
    """The name at this place is bound by nothing round it."""

    def __init__(self, place):
        BlameError.__init__(self, f"nothing binds the name at place {place}")
        self.place = place


class TooDeep(BlameError):
    """A kind at this place is too deep for the looker."""

    def __init__(self, place):
        BlameError.__init__(self, f"a kind at place {place} is too deep")
        self.place = place


class NoFit(BlameError):
    """Two programs don't fit each other at this place."""

    def __init__(self, place):
        BlameError.__init__(self, f"the programs don't fit at place {place}")
        self.place = place


class NoLook(BlameError):
    """No look stands at this place."""

    def __init__(self, place):
        BlameError.__init__(self, f"no look stands at place {place}")
        self.place = place


class Parted(BlameError):
    """The kind at a place parts from the kind that is wanted there."""

    def __init__(self, place, kind, by, wanted, way):
        BlameError.__init__(self, f"the kind at place {place} parts from the one that place {by} wants")
        self.place = place
        self.kind = kind
        self.by = by
        self.wanted = wanted
        self.way = way
