"""Many kinds, and what the words of the document make of them, gone through one by one."""

import itertools

# The grounds of all kinds.
WHOLE = ("whole",)
TRUTH = ("truth",)
UNTOLD = ("?",)
TO = ("to", UNTOLD, UNTOLD)
ROW = ("row", UNTOLD)
PAIR = ("pair", UNTOLD, UNTOLD)

LEAVES = [WHOLE, TRUTH, UNTOLD]
STEPS = ["arg", "res", "item", "one", "two"]


def one_deeper(kinds):
    """All kinds whose parts are among these, and those without parts."""
    made = list(LEAVES)
    made += [("row", kind) for kind in kinds]
    for head in ("to", "pair"):
        made += [(head, kind, other) for kind, other in itertools.product(kinds, repeat=2)]
    return made


KINDS_2 = one_deeper(LEAVES)
KINDS_3 = one_deeper(KINDS_2)


def deep_kind(number, depth):
    """A kind of just this depth, another one for most numbers."""
    if depth == 1:
        return LEAVES[number % 3]
    deep = deep_kind(number * 7 // 5 + 3, depth - 1)
    flat = deep_kind(number * 5 // 3 + 1, 1 + number % (depth - 1))
    made = [("row", deep), ("to", deep, flat), ("to", flat, deep), ("pair", deep, flat), ("pair", flat, deep)]
    return made[number % 5]


DEEP_KINDS = [deep_kind(number, depth) for depth in range(1, 7) for number in range(0, 40)]


def loosenings(kind):
    """All kinds that come of this one by putting ? for none, one or more of its parts, or for all of it."""
    inner = itertools.product(*[loosenings(part) for part in kind[1:]])
    made = [kind[:1] + tuple(parts) for parts in inner]
    return made if kind == UNTOLD else made + [UNTOLD]


def ways_into(kind):
    """All ways that lead through told heads alone, the first part's ahead of the second's, with where they lead."""
    found = [((), kind)]
    steps = {"to": ["arg", "res"], "row": ["item"], "pair": ["one", "two"]}.get(kind[0], [])
    for step, part in zip(steps, kind[1:]):
        found += [((step,) + way, end) for way, end in ways_into(part)]
    return found


def first_parting(kind, other):
    """The first way that leads in both to told kinds with unlike heads, or None."""
    ends = dict(ways_into(other))
    for way, end in ways_into(kind):
        if way in ends and UNTOLD not in (end, ends[way]) and end[0] != ends[way][0]:
            return way
    return None
