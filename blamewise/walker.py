"""A run by going through the tree, with looks or without."""

from blamewise.deeds import LEAVES, deed, leaf_value, names_in_call, names_with, need_head, node_called
from blamewise.rows import text_of
from blamewise.trees import parts
from blamewise.values import Ended, Giver, looks_beside


def walked(tree, looks, numbers, calls, together):
    """The answer of the run; looks has the looks of the program by their places."""
    walker = Walker(looks, numbers, calls, together)
    try:
        value = walker.come_to(tree, {})
        return ("done", text_of(value, walker.giver))
    except Ended as end:
        return end.outcome


class Walker:
    """Goes through one program."""

    def __init__(self, looks, numbers, calls, together):
        self.looks = looks
        self.numbers = numbers
        self.giver = Giver(calls, together)

    def come_to(self, node, names):
        """The node's value, given to the look at its place."""
        value = self.value_of(node, names)
        if node[1] in self.looks:
            return self.giver.give(value, self.looks[node[1]])
        return value

    def value_of(self, node, names):
        """The node's value by itself; names has the values of the names."""
        word = node[0]
        if word in LEAVES:
            return leaf_value(node, names, self.numbers)
        if word == "let":
            return self.come_to(node[4], names_with(names, node[2], self.come_to(node[3], names)))
        if word == "if":
            truth = self.come_to(node[2], names)
            need_head(node, 0, truth)
            return self.come_to(node[3] if truth.held else node[4], names)
        found = []
        for number, part in enumerate(parts(node)):
            value = self.come_to(part, names)
            need_head(node, number, value)
            found.append(value)
        if word == "call":
            return self.called(found[0], found[1])
        return deed(node, found, self.giver)

    def called(self, function, argument):
        """The value of the function called with the argument."""
        taken = self.giver.give_in_call(argument, function)
        value = self.come_to(node_called(function), names_in_call(function, taken))
        return self.giver.give_all(value, looks_beside(function, 2))
