"""The looker: the kinds of all nodes and those wanted of them, or a refusal."""

from blamewise.errors import Parted, TooDeep
from blamewise.kinds import depth, part
from blamewise.meets import join, parting
from blamewise.trees import need_names, parts, written

MOST_DEPTH = 4

WHOLE = ("whole",)
TRUTH = ("truth",)

# The kind of each word whose nodes have one kind alone.
SURE_KINDS = {"whole": ("whole",), "given": ("whole",), "size": ("whole",), "truth": ("truth",)}

# The ground that the first part of a node of this word must have, where it is told.
NEEDED = {
    "call": ("to", ("?",), ("?",)),
    "at": ("row", ("?",)),
    "size": ("row", ("?",)),
    "one": ("pair", ("?",), ("?",)),
    "two": ("pair", ("?",), ("?",)),
}

# The step from the kind of the first part to the node's own kind.
TAKEN_OUT = {"call": ("res",), "at": ("item",), "one": ("one",), "two": ("two",)}


def looked(tree):
    """The kinds of all nodes by their places, and the kinds wanted of them."""
    need_names(tree)
    looker = Looker()
    looker.want(tree, looker.look(tree, {}))
    return (looker.kinds, looker.wanted)


def kind_of(tree):
    """The kind of the program."""
    return looked(tree)[0][tree[1]]


class Looker:
    """Goes through one program and keeps what it finds by places."""

    def __init__(self):
        self.kinds = {}
        self.wanted = {}

    def look(self, tree, bound):
        """The node's kind, all within it looked at first; bound has the kinds of the names."""
        for kind in written(tree):
            need_shallow(tree, kind)
        found = []
        for number, node in enumerate(parts(tree)):
            found.append(self.look(node, bound_within(tree, number, found, bound)))
            self.hold(tree, node, found)
        own = own_kind(tree, found, bound)
        need_shallow(tree, own)
        self.kinds[tree[1]] = own
        return own

    def hold(self, tree, node, found):
        """Holds a part, whose kind is the last one in found, against what the node tree wants of it."""
        if tree[0] == "if" and len(found) == 3:
            self.hold_choice(tree, found)
        else:
            kind = wanted_kind(tree, found)
            need_same(node, found[-1], tree, kind)
            self.want(node, kind)

    def hold_choice(self, tree, found):
        """Holds the two parts that an if chooses from against each other."""
        need_same(tree[4], found[2], tree[3], found[1])
        for node in (tree[3], tree[4]):
            self.want(node, join(found[1], found[2]))

    def want(self, node, kind):
        """Keeps what is wanted of the node."""
        self.wanted[node[1]] = kind


def need_shallow(tree, kind):
    """Refuses a kind at this node that is too deep."""
    if depth(kind) > MOST_DEPTH:
        raise TooDeep(tree[1])


def need_same(node, kind, against, wanted):
    """Refuses the node where its kind parts from the one wanted, that comes of the node against."""
    way = parting(kind, wanted)
    if way is not None:
        raise Parted(node[1], kind, against[1], wanted, way)


def bound_within(tree, number, found, bound):
    """The kinds of the names in the node's part of this number; found has those of the parts ahead."""
    inner = dict(bound)
    if tree[0] == "fn":
        inner[tree[2]] = tree[3]
    elif tree[0] == "self":
        # The argument comes last, so that it counts where both names are alike.
        inner[tree[2]] = ("to", tree[4], tree[5])
        inner[tree[3]] = tree[4]
    elif tree[0] == "let" and number == 1:
        inner[tree[2]] = found[0]
    return inner


def wanted_kind(tree, found):
    """The kind that the node wants of its newest part, whose kind is the last one in found."""
    word = tree[0]
    if word == "do" or (word == "at" and len(found) == 2):
        return WHOLE
    if word == "if" and len(found) == 1:
        return TRUTH
    if word in ("row", "as"):
        return tree[2]
    if word == "self":
        return tree[5]
    if word == "call" and len(found) == 2:
        return part(found[0], ("arg",))
    if word in NEEDED and found[0][0] != NEEDED[word][0]:
        return NEEDED[word]
    return found[-1]


def own_kind(tree, found, bound):
    """The node's kind; found has the kinds of its parts."""
    word = tree[0]
    if word in SURE_KINDS:
        return SURE_KINDS[word]
    if word in TAKEN_OUT:
        return part(found[0], TAKEN_OUT[word])
    if word == "name":
        return bound[tree[2]]
    if word == "fn":
        return ("to", tree[3], found[0])
    if word == "self":
        return ("to", tree[4], tree[5])
    if word == "let":
        return found[1]
    if word == "if":
        return join(found[1], found[2])
    if word == "do":
        return TRUTH if tree[2] in ("<", "=") else WHOLE
    if word == "row":
        return ("row", tree[2])
    if word == "pair":
        return ("pair", found[0], found[1])
    return tree[2]
