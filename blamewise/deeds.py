"""What a node makes of the values of its parts, the same for every run."""

from blamewise.rows import thing_of
from blamewise.trees import parts
from blamewise.values import Ended, alone

MOST_FIGURES = 40

# The words of nodes of which a run goes through no part.
LEAVES = ("whole", "truth", "given", "name", "fn", "self")

# The heads that a node of this word needs of its parts, as far as it needs any.
NEEDED_HEADS = {
    "call": ("to",),
    "if": ("truth",),
    "do": ("whole", "whole"),
    "at": ("row", "whole"),
    "size": ("row",),
    "one": ("pair",),
    "two": ("pair",),
}


def leaf_value(node, names, numbers):
    """The value of a node of which no part is gone through."""
    word = node[0]
    if word == "given":
        return alone("whole", numbers[node[2]] if node[2] < len(numbers) else 0)
    if word == "name":
        return names[node[2]]
    if word in ("fn", "self"):
        return alone("to", (node, names))
    return alone(word, node[2])


def need_head(node, number, value):
    """Ends the run where the node's part of this number has come to a value that the node can't use."""
    needed = NEEDED_HEADS.get(node[0], ())
    if number < len(needed) and value.head != needed[number]:
        raise Ended(("wrong", parts(node)[number][1]))


def deed(node, found, giver):
    """The node's value, where found has those of all its parts."""
    word = node[0]
    if word == "do":
        return reckoned(node, found[0].held, found[1].held)
    if word in ("row", "pair"):
        return alone(word, tuple(found))
    if word == "at":
        return thing_at(node, found[0], found[1].held, giver)
    if word == "size":
        return alone("whole", len(found[0].held))
    if word == "one":
        return thing_of(found[0], 0, giver)
    if word == "two":
        return thing_of(found[0], 1, giver)
    return found[0]


def reckoned(node, number, other):
    """The value of a do with these two numbers."""
    sign = node[2]
    if sign == "<":
        return alone("truth", number < other)
    if sign == "=":
        return alone("truth", number == other)
    result = reckoned_number(sign, number, other)
    if len(str(abs(result))) > MOST_FIGURES:
        raise Ended(("fault", node[1], "great"))
    return alone("whole", result)


def reckoned_number(sign, number, other):
    """The number that the sign makes of two."""
    if sign == "+":
        return number + other
    if sign == "-":
        return number - other
    return number * other


def thing_at(node, row, number, giver):
    """The thing of the row at this number, from 0 on, for the node at."""
    if not 0 <= number < len(row.held):
        raise Ended(("fault", node[1], "none"))
    return thing_of(row, number, giver)


def names_with(names, name, value):
    """The names with one more bound, the others left as they stand."""
    inner = dict(names)
    inner[name] = value
    return inner


def names_in_call(function, argument):
    """The names as they stand in the function's node when it is called."""
    node = function.held[0]
    names = function.held[1]
    if node[0] == "fn":
        return names_with(names, node[2], argument)
    # The function by its own name is without what stands beside it; the argument
    # is bound last, so that it counts where both names are alike.
    return names_with(names_with(names, node[2], alone("to", function.held)), node[3], argument)


def node_called(function):
    """The node that is gone through when the function is called."""
    return parts(function.held[0])[0]
