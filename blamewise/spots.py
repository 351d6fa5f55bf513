"""Kinds taken away from programs, and programs that differ in their written kinds alone."""

from blamewise.errors import NoFit
from blamewise.kinds import UNTOLD, kinds_in, with_kinds
from blamewise.meets import join, looser, meet
from blamewise.trees import form, parts, with_parts, with_written, written

# What two alike programs have in common, of the things behind a node's word and place.
OWN_SORTS = ("number", "truth", "given", "name", "sign")


def spots(tree):
    """How many told parts the written kinds of the program have."""
    own = sum([spots_in(kind) for kind in written(tree)])
    return own + sum([spots(node) for node in parts(tree)])


def spots_in(kind):
    """How many told parts the kind has, itself among them."""
    if kind == UNTOLD:
        return 0
    return 1 + sum([spots_in(inner) for inner in kinds_in(kind)])


def loosened(tree, bits):
    """The program with ? for each spot at whose number bits has a one."""
    left = bits
    kinds = []
    for kind in written(tree):
        kinds.append(loosened_kind(kind, left))
        left = left >> spots_in(kind)
    nodes = []
    for node in parts(tree):
        nodes.append(loosened(node, left))
        left = left >> spots(node)
    return with_parts(with_written(tree, kinds), nodes)


def loosened_kind(kind, bits):
    """The kind with ? for each of its spots at whose number bits has a one; its own number is 0."""
    if kind == UNTOLD or bits & 1 == 1:
        return UNTOLD
    left = bits >> 1
    found = []
    for inner in kinds_in(kind):
        found.append(loosened_kind(inner, left))
        left = left >> spots_in(inner)
    return with_kinds(kind, found)


def looser_tree(tree, other):
    """True where other is looser than tree, or equal."""
    return first_unlike(tree, other) is None and all_looser(tree, other)


def all_looser(tree, other):
    """True where each written kind of other is looser or equal, of two alike programs."""
    kinds = [looser(kind, beside) for kind, beside in zip(written(tree), written(other))]
    nodes = [all_looser(node, beside) for node, beside in zip(parts(tree), parts(other))]
    return all(kinds + nodes)


def joined(tree, other):
    """The program with the joins of the written kinds of two alike ones."""
    need_alike(tree, other)
    return with_both(tree, other, join)


def met(tree, other):
    """The program with the meets of the written kinds of two alike ones."""
    need_alike(tree, other)
    return with_both(tree, other, meet)


def with_both(tree, other, both):
    """The program whose written kinds are what both makes of those of two alike ones."""
    kinds = [both(kind, beside) for kind, beside in zip(written(tree), written(other))]
    if None in kinds:
        raise NoFit(tree[1])
    nodes = [with_both(node, beside, both) for node, beside in zip(parts(tree), parts(other))]
    return with_parts(with_written(tree, kinds), nodes)


def need_alike(tree, other):
    """Refuses programs that differ in more than written kinds."""
    place = first_unlike(tree, other)
    if place is not None:
        raise NoFit(place)


def first_unlike(tree, other):
    """The place of the first node that differs in more than written kinds, or None."""
    if own_things(tree) != own_things(other):
        return tree[1]
    for node, beside in zip(parts(tree), parts(other)):
        place = first_unlike(node, beside)
        if place is not None:
            return place
    return None


def own_things(tree):
    """All that the node itself has but written kinds and parts, and how many parts these are."""
    things = [thing for sort, thing in zip(form(tree[0]), tree[2:]) if sort in OWN_SORTS]
    return (tree[0], tree[1], things, len(parts(tree)))
