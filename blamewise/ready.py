"""The looks of a program, and the program with its looks put in."""

from blamewise.kinds import depth
from blamewise.looker import looked
from blamewise.looks import made
from blamewise.trees import parts, places, with_parts


def looks_of(tree):
    """The looks as tuples (place, from, to), in the order of their nodes."""
    found = looked(tree)
    kinds = found[0]
    wanted = found[1]
    return [(place, kinds[place], wanted[place]) for place in places(tree) if kinds[place] != wanted[place]]


def deepest(tree):
    """The greatest depth of a kind at a look, 0 where there is no look."""
    return max([max(depth(kind), depth(other)) for place, kind, other in looks_of(tree)], default=0)


def made_looks(tree):
    """The looks of the program, made, by their places."""
    looks = {}
    for place, kind, other in looks_of(tree):
        looks[place] = made(kind, other, place)
    return looks


def ready(tree):
    """The program with a look round each node whose kind isn't the one wanted."""
    looks = {}
    for place, kind, other in looks_of(tree):
        looks[place] = (kind, other)
    return put_in(tree, looks)


def put_in(tree, looks):
    """The node with its looks and those within it; looks has their kinds by places."""
    place = tree[1]
    inner = with_parts(tree, [put_in(node, looks) for node in parts(tree)])
    if place not in looks:
        return inner
    return ("look", place, looks[place][0], looks[place][1], inner)


def bare(tree):
    """The program without its looks."""
    if tree[0] == "look":
        return bare(tree[4])
    return with_parts(tree, [bare(node) for node in parts(tree)])
