"""Who is to blame: the road of a label, and programs softened where the looker refuses them."""

from blamewise.errors import NoLook, Parted
from blamewise.kinds import UNTOLD, stepped
from blamewise.looker import looked
from blamewise.ready import looks_of
from blamewise.trees import parts, places, with_parts


def road(tree, label):
    """The kinds of the look at the label's place, then those to which each step of its way leads."""
    for place, kind, other in looks_of(tree):
        if place == label[0]:
            return road_along(kind, other, label[2])
    raise NoLook(label[0])


def road_along(kind, other, way):
    """The pairs of kinds along the way, these two first."""
    found = [(kind, other)]
    for step in way:
        pair = found[-1]
        found.append((stepped(pair[0], step), stepped(pair[1], step)))
    return found


def softened(tree):
    """The program with each node that is refused made untold, and a tuple of each refusal."""
    soft = tree
    told_refusals = []
    refusal = refusal_of(soft)
    while refusal is not None:
        new = max(places(soft)) + 1
        told_refusals.append((refusal.place, new, refusal.kind, refusal.by, refusal.wanted, refusal.way))
        soft = with_untold(soft, refusal.place, new)
        refusal = refusal_of(soft)
    return (soft, told_refusals)


def refusal_of(tree):
    """The refusal of the program because kinds part, or None."""
    try:
        looked(tree)
    except Parted as refusal:
        return refusal
    return None


def with_untold(tree, place, new):
    """The program with the node at the place taken for a ?, by a node at the new place."""
    if tree[1] == place:
        return ("as", new, UNTOLD, tree)
    return with_parts(tree, [with_untold(node, place, new) for node in parts(tree)])
