"""Kinds: their parts and depth, what they tell, and the ways into them."""

from blamewise.errors import NoPart

UNTOLD = ("?",)

# The steps to the parts of a kind, by its head, in the order of the parts.
STEPS = {
    "whole": (),
    "truth": (),
    "?": (),
    "to": ("arg", "res"),
    "row": ("item",),
    "pair": ("one", "two"),
}

ALL_STEPS = ("arg", "res", "item", "one", "two")


def steps(kind):
    """The steps that lead to the parts of the kind, in their order."""
    return STEPS[kind[0]]


def kinds_in(kind):
    """The parts of the kind."""
    return list(kind[1:])


def with_kinds(kind, some):
    """The kind with this head and other parts."""
    return (kind[0],) + tuple(some)


def depth(kind):
    """1 for a kind without parts, else 1 more than the greatest depth of a part."""
    return 1 + max([depth(inner) for inner in kinds_in(kind)], default=0)


def told(kind):
    """True where no ? stands in the kind."""
    return kind != UNTOLD and all([told(inner) for inner in kinds_in(kind)])


def ground(kind):
    """The kind that tells this head and nothing else."""
    return with_kinds(kind, [UNTOLD for inner in kinds_in(kind)])


def part(kind, way):
    """The kind to which the way leads."""
    found = kind
    for step in way:
        found = stepped(found, step)
    return found


def stepped(kind, step):
    """The kind to which this one step leads."""
    if kind == UNTOLD and step in ALL_STEPS:
        return UNTOLD
    fitting = steps(kind)
    if step not in fitting:
        head = kind[0]
        raise NoPart(f"no step {step!r} leads on from the head {head!r}")
    return kinds_in(kind)[fitting.index(step)]
