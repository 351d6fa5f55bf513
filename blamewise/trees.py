"""Programs as nodes: their parts, written kinds, places, nest and free names."""

from blamewise.errors import NoName

# The things of a node behind its word and its place, each by its sort. The
# kinds of a look are put in, not written, so they are of a sort of their own.
FORMS = {
    "whole": ("number",),
    "truth": ("truth",),
    "given": ("given",),
    "name": ("name",),
    "fn": ("name", "kind", "node"),
    "self": ("name", "name", "kind", "kind", "node"),
    "call": ("node", "node"),
    "let": ("name", "node", "node"),
    "if": ("node", "node", "node"),
    "do": ("sign", "node", "node"),
    "row": ("kind", "nodes"),
    "at": ("node", "node"),
    "size": ("node",),
    "pair": ("node", "node"),
    "one": ("node",),
    "two": ("node",),
    "as": ("kind", "node"),
    "look": ("put in", "put in", "node"),
}


def form(word):
    """The sorts of the things that a node of this word has behind its place."""
    return FORMS[word]


def indexes(tree, sort):
    """Where in the node's tuple the things of this sort stand."""
    return [index for index, found in enumerate(form(tree[0]), start=2) if found == sort]


def exchanged(tree, spots, some):
    """The node with the things of some at these indexes."""
    things = list(tree)
    for index, thing in zip(spots, some):
        things[index] = thing
    return tuple(things)


def parts(tree):
    """The nodes right within this one."""
    if tree[0] == "row":
        return list(tree[3])
    return [tree[index] for index in indexes(tree, "node")]


def with_parts(tree, some):
    """This node with other parts, as many as it has."""
    if tree[0] == "row":
        return exchanged(tree, [3], [tuple(some)])
    return exchanged(tree, indexes(tree, "node"), some)


def written(tree):
    """The written kinds of this node itself."""
    return [tree[index] for index in indexes(tree, "kind")]


def with_written(tree, some):
    """This node with other written kinds, as many as it has."""
    return exchanged(tree, indexes(tree, "kind"), some)


def places(tree):
    """The places of all nodes, a node's ahead of those of its parts."""
    found = [tree[1]]
    for part in parts(tree):
        found.extend(places(part))
    return found


def nest(tree):
    """1 for a node without parts, else 1 more than the greatest nest of a part."""
    return 1 + max([nest(part) for part in parts(tree)], default=0)


def need_names(tree):
    """Refuses a program with a free name by the place of the first one."""
    need_bound(tree, ())


def need_bound(tree, bound):
    """Refuses the first name within the node that is neither in bound nor bound in the node."""
    if tree[0] == "name" and tree[2] not in bound:
        raise NoName(tree[1])
    for number, part in enumerate(parts(tree)):
        need_bound(part, bound + names_bound(tree, number))


def names_bound(tree, number):
    """The names that the node itself binds in its part of this number."""
    word = tree[0]
    if word == "fn":
        return (tree[2],)
    if word == "self":
        return (tree[2], tree[3])
    if word == "let" and number == 1:
        return (tree[2],)
    return ()
