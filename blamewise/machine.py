"""A machine that runs a program by steps, and tells what waits and what stands beside values."""

from blamewise.deeds import LEAVES, deed, leaf_value, names_in_call, names_with, node_called
from blamewise.laying import laid
from blamewise.looks import STILL
from blamewise.ready import made_looks
from blamewise.rows import text_of
from blamewise.trees import parts
from blamewise.values import Ended, Giver, looks_beside

BACK = ("back",)


def by_machine(tree, numbers, calls, together=True):
    """The answer to which the machine comes."""
    machine = Machine(tree, numbers, calls, together)
    while machine.step():
        pass
    return machine.answer()


class Frame:
    """A node that is gone into: the values found of its parts, and what is done with its own value.

    This is given to the looks in after, of which the last one is the first to be done. A node
    that stands last comes to the value of its function, or of the program."""

    def __init__(self, node, names, after, last):
        self.node = node
        self.names = names
        self.after = after
        self.last = last
        self.found = []


class Machine:
    """One program at work: a node to go to, or the value to which it came, and all that waits for it."""

    def __init__(self, tree, numbers, calls, together=True):
        self.looks = made_looks(tree)
        self.numbers = list(numbers)
        self.giver = Giver(calls, together)
        self.waits = []
        self.frames = []
        self.outcome = None
        self.value = None
        self.now = self.frame_of(tree, {}, (), True)

    def step(self):
        """Goes on, and tells whether the answer isn't there yet."""
        if self.outcome is None:
            try:
                self.go_on()
            except Ended as end:
                self.outcome = end.outcome
        return self.outcome is None

    def answer(self):
        """The answer, or None ahead of the end."""
        return self.outcome

    def waiting(self):
        """What waits for a value; the one at the end is done first."""
        return list(self.waits)

    def beside(self):
        """The notes of what stood beside values."""
        return list(self.giver.notes)

    def calls_left(self):
        """How many calls of the bound are left."""
        return self.giver.left

    def frame_of(self, node, names, after, last):
        """The frame of a node whose value goes to the look at its place, then to those in after."""
        if node[1] in self.looks:
            return Frame(node, names, after + (self.looks[node[1]],), last)
        return Frame(node, names, after, last)

    def go_on(self):
        """The next thing to do: with a value that is there, or at a node."""
        frame = self.now
        if self.value is None:
            self.go_into(frame)
        elif frame.after != ():
            self.value = self.giver.give(self.value, frame.after[-1])
            frame.after = frame.after[:-1]
        elif frame.last:
            self.give_back()
        else:
            self.hand_on()

    def go_into(self, frame):
        """Comes to the node's value, or goes on to a part of it."""
        word = frame.node[0]
        many = len(frame.found)
        if word in LEAVES:
            self.value = leaf_value(frame.node, frame.names, self.numbers)
        elif word == "as":
            self.go_to_last(frame, frame.node[3], frame.names)
        elif word == "let" and many == 1:
            self.go_to_last(frame, frame.node[4], names_with(frame.names, frame.node[2], frame.found[0]))
        elif word == "if" and many == 1:
            self.go_to_last(frame, frame.node[3] if frame.found[0].held else frame.node[4], frame.names)
        elif many < len(parts(frame.node)):
            self.frames.append(frame)
            self.now = self.frame_of(parts(frame.node)[many], frame.names, (), False)
        elif word == "call":
            self.call(frame, frame.found[0], frame.found[1])
        else:
            self.value = deed(frame.node, frame.found, self.giver)

    def go_to_last(self, frame, node, names):
        """Goes to the part whose value is the node's own: it has all to do that the node had."""
        self.now = self.frame_of(node, names, frame.after, frame.last)

    def hand_on(self):
        """Hands the value to the node of which it is a part's."""
        frame = self.frames.pop()
        frame.found.append(self.value)
        self.value = None
        self.now = frame

    def give_back(self):
        """Hands the value of a function, or of the program, to what waits for it."""
        if self.waits == []:
            self.outcome = ("done", text_of(self.value, self.giver))
        elif self.waits[-1] == BACK:
            self.waits.pop()
            self.now = self.frames.pop()
        else:
            self.value = self.giver.give(self.value, self.waits.pop()[1])

    def call(self, frame, function, argument):
        """Calls the function, with what its value is still to be given to put where it waits."""
        taken = self.giver.give_in_call(argument, function)
        if frame.last:
            self.wait_with(frame.after)
        else:
            self.waits.append(BACK)
            self.frames.append(frame)
        self.wait_with(list(reversed(looks_beside(function, 2))))
        self.now = self.frame_of(node_called(function), names_in_call(function, taken), (), True)

    def wait_with(self, some):
        """Puts the looks to the end of what waits, the first one first."""
        for look in some:
            self.put_behind(look)

    def put_behind(self, look):
        """Puts one look to the end of what waits, where it isn't still."""
        behind = look
        if self.giver.together and self.waits != [] and self.waits[-1] != BACK:
            behind = laid(look, self.waits.pop()[1])
        if behind != STILL:
            self.waits.append(("look", behind))
