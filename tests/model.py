"""A run told another way, by going through the tree: what waits and what stands beside values.

A value is a tuple (raw, guards, tag), the guards a list with the innermost first. A raw thing is a
number, a truth, or a tuple: ("fn", node, names), ("row", values), ("pair", values)."""

from blamewise.laying import laid
from blamewise.looks import STILL, made
from blamewise.ready import looks_of

SAME = ("same",)
BACK = ("back",)


class End(Exception):
    """The run ends with this answer."""


class Model:
    """One run, done when it is made."""

    def __init__(self, tree, numbers, calls, together):
        self.looks = {place: made(kind, other, place) for place, kind, other in looks_of(tree)}
        self.numbers, self.left, self.together = numbers, calls, together
        self.waits, self.notes = [], []
        try:
            self.answer = ("done", self.text(self.go(tree, {}, [], True), 1))
        except End as end:
            self.answer = end.args[0]

    def give(self, value, looks):
        for ask, body, new_tag in looks:
            raw, guards, tag = value
            if ask is not None:
                if tag[0] != ask[0]:
                    raise End(("blame", ask[1], ask[0], tag[1], tag[0]))
                tag = None
            if body[0] == "broken":
                raise End(("blame", body[2][1], body[2][0], body[1][1], body[1][0]))
            if body != SAME:
                guards = guards + [body]
                if self.together and len(guards) == 2:
                    both = laid((None, guards[0], None), (None, guards[1], None))[1]
                    guards = [both] if both != SAME else []
            tag = tag if new_tag is None else new_tag
            value = (raw, guards, tag)
            if (body != SAME or new_tag is not None) and (guards or tag is not None):
                self.notes.append((len(guards), guards[-1] if guards else None, tag))
        return value

    def go(self, node, names, looks, last):
        """The value of the node, given to its own look and to those in looks, the last one first."""
        if node[1] in self.looks:
            looks = looks + [self.looks[node[1]]]
        word = node[0]
        if word == "let":
            value = self.go(node[3], names, [], False)
            return self.go(node[4], {**names, node[2]: value}, looks, last)
        if word == "if":
            truth = self.go(node[2], names, [], False)
            return self.go(node[3] if truth[0] else node[4], names, looks, last)
        if word == "as":
            return self.go(node[3], names, looks, last)
        if word == "call":
            return self.call(node, names, looks, last)
        return self.end_node(self.deed(node, names), looks, last)

    def end_node(self, value, looks, last):
        value = self.give(value, reversed(looks))
        while last and self.waits and self.waits[-1] != BACK:
            value = self.give(value, [self.waits.pop()[1]])
        if last and self.waits:
            self.waits.pop()
        return value

    def call(self, node, names, looks, last):
        (_, function, kept), guards, _ = self.go(node[2], names, [], False)
        argument = self.go(node[3], names, [], False)
        if self.left == 0:
            raise End(("spent",))
        self.left -= 1
        argument = self.give(argument, [body[1] for body in reversed(guards)])
        if last:
            self.put(looks)
        else:
            self.waits.append(BACK)
        self.put([body[2] for body in reversed(guards)])
        if function[0] == "self":
            kept = {**kept, function[2]: (("fn", function, kept), [], None)}
        value = self.go(function[-1], {**kept, function[-3 if function[0] == "fn" else 3]: argument}, [], True)
        return value if last else self.end_node(value, looks, False)

    def put(self, looks):
        for look in looks:
            if self.together and self.waits and self.waits[-1] != BACK:
                look = laid(look, self.waits.pop()[1])
            if look != STILL:
                self.waits.append(("look", look))

    def deed(self, node, names):
        word = node[0]
        if word in ("whole", "truth"):
            return (node[2], [], None)
        if word == "given":
            return ((self.numbers + [0] * 8)[node[2]], [], None)
        if word == "name":
            return names[node[2]]
        if word in ("fn", "self"):
            return (("fn", node, names), [], None)
        if word == "row":
            return (("row", [self.go(part, names, [], False) for part in node[3]]), [], None)
        found = [self.go(part, names, [], False) for part in node[2:] if isinstance(part, tuple)]
        if word == "pair":
            return (("pair", found), [], None)
        if word == "size":
            return (len(found[0][0][1]), [], None)
        if word in ("one", "two"):
            return self.thing(found[0], ["one", "two"].index(word))
        if word == "at":
            if found[1][0] not in range(len(found[0][0][1])):
                raise End(("fault", node[1], "none"))
            return self.thing(found[0], found[1][0])
        one, other = found[0][0], found[1][0]
        made_number = {"+": one + other, "-": one - other, "*": one * other, "<": one < other, "=": one == other}
        if node[2] in "+-*" and abs(made_number[node[2]]) >= 10 ** 40:
            raise End(("fault", node[1], "great"))
        return (made_number[node[2]], [], None)

    def thing(self, value, number):
        (word, things), guards, _ = value
        return self.give(things[number], [body[1 if word == "row" else number + 1] for body in guards])

    def text(self, value, level):
        raw = value[0]
        if raw is True or raw is False:
            return "yes" if raw else "no"
        if isinstance(raw, int):
            return str(raw)
        if raw[0] == "fn":
            return "fn"
        shown = [".." if level == 3 else self.text(self.thing(value, number), level + 1)
                 for number in range(len(raw[1]))]
        return ("[{}]" if raw[0] == "row" else "<{}>").format(" ".join(shown))
