"""Many programs, the same ones each time: wholly told ones that are taken, looser ones, and wrong ones."""

from blamewise.errors import NoText
from blamewise.texts import read, show_kind
from blamewise.trees import parts, places, with_parts, with_written, written
from tests.counting import Counting
from tests.many_kinds import TRUTH, UNTOLD, WHOLE

NAMES = ["a", "b", "c", "let", "whole"]


def depth_of(kind):
    return 1 + max([depth_of(part) for part in kind[1:]], default=0)


class Maker:
    """Makes texts of nodes of a wanted kind, wholly told."""

    def __init__(self, seed):
        self.rule = Counting(seed)

    def kind(self, most):
        """A wholly told kind of at most this depth."""
        head = self.rule.one_of(["whole", "truth", "to", "row", "pair"]) if most > 1 else "whole"
        if most == 1 or head in ("whole", "truth"):
            return self.rule.one_of([WHOLE, TRUTH])
        if head == "row":
            return ("row", self.kind(most - 1))
        return (head, self.kind(most - 1), self.kind(most - 1))

    def node(self, kind, bound, level):
        """A node of this kind with at most this nest; bound has the kinds of the names."""
        names = [name for name, its_kind in bound.items() if its_kind == kind]
        if names and self.rule.happens(40):
            return self.rule.one_of(names)
        if level > depth_of(kind) + 1 and self.rule.happens(75):
            return self.taken_out(kind, bound, level - 1)
        return self.put_together(kind, bound, level - 1)

    def put_together(self, kind, bound, level):
        if kind == WHOLE:
            return self.rule.one_of(["(given 0)", "(given 7)", str(self.rule.below(18) - 9)])
        if kind == TRUTH:
            return self.rule.one_of(["yes", "no"])
        if kind[0] == "to":
            return self.function(kind, bound, level)
        if kind[0] == "pair":
            return f"(pair {self.node(kind[1], bound, level)} {self.node(kind[2], bound, level)})"
        things = [self.node(kind[1], bound, level) for _ in range(self.rule.below(5))]
        return "(" + " ".join(["row", show_kind(kind[1])] + things) + ")"

    def function(self, kind, bound, level):
        name, own = self.rule.one_of(NAMES), self.rule.one_of(NAMES)
        if self.rule.happens(50):
            inner = self.node(kind[2], {**bound, name: kind[1]}, level)
            return f"(fn {name} {show_kind(kind[1])} {inner})"
        inner = self.node(kind[2], {**bound, own: kind, name: kind[1]}, level)
        return f"(self {own} {name} {show_kind(kind[1])} {show_kind(kind[2])} {inner})"

    def taken_out(self, kind, bound, level):
        other = self.kind(min(2, level - 1))
        word = self.rule.one_of(["call", "let", "if", "at", "one", "two", "as", "do", "do", "size"])
        if word == "do" and kind in (WHOLE, TRUTH):
            sign = self.rule.one_of("+-*" if kind == WHOLE else "<=")
            return f"({sign} {self.node(WHOLE, bound, level)} {self.node(WHOLE, bound, level)})"
        if word == "size" and kind == WHOLE:
            return f"(size {self.node(('row', other), bound, level)})"
        if word == "let":
            name = self.rule.one_of(NAMES)
            first = self.node(other, bound, level)
            return f"(let {name} {first} {self.node(kind, {**bound, name: other}, level)})"
        if word == "if":
            choice = [self.node(kind, bound, level) for _ in range(2)]
            return f"(if {self.node(TRUTH, bound, level)} {choice[0]} {choice[1]})"
        if depth_of(kind) > 3 or word in ("as", "do", "size"):
            return f"(as {show_kind(kind)} {self.node(kind, bound, level)})"
        return self.taken_apart(word, kind, other, bound, level)

    def taken_apart(self, word, kind, other, bound, level):
        if word == "call":
            return f"(call {self.node(('to', other, kind), bound, level)} {self.node(other, bound, level)})"
        if word == "at":
            return f"(at {self.node(('row', kind), bound, level)} {self.node(WHOLE, bound, level)})"
        pair = ("pair", kind, other) if word == "one" else ("pair", other, kind)
        return f"({word} {self.node(pair, bound, level)})"


class Liar(Maker):
    """Makes nodes some of which are of another kind than they are taken for, by way of ?."""

    def node(self, kind, bound, level):
        if level < 4 or not self.rule.happens(20):
            return super().node(kind, bound, level)
        other = self.other_kind(kind)
        if depth_of(other) > 4:
            other = kind
        return f"(as {show_kind(kind)} (as ? {super().node(other, bound, level - 2)}))"

    def other_kind(self, kind):
        """Another kind, or the same one, mostly with the same head."""
        if len(kind) == 1 or self.rule.happens(15):
            return self.kind(2)
        number = 1 + self.rule.below(len(kind) - 1)
        return kind[:number] + (self.other_kind(kind[number]),) + kind[number + 1:]


def drawn_programs(maker, many, level, most_nodes=120):
    """This many programs of the maker's."""
    found = []
    while len(found) < many:
        try:
            tree = read(maker.node(maker.kind(3), {}, level))
        except NoText:
            continue
        if len(places(tree)) <= most_nodes:
            found.append(tree)
    return found


def told_programs(many, seed=1, level=6):
    """This many wholly told programs that the looker must take."""
    return drawn_programs(Maker(seed), many, level)


def lying_programs(many, seed=1, level=8, most_nodes=120):
    """This many programs that the looker must take, of which many end in a blame."""
    return drawn_programs(Liar(seed), many, level, most_nodes)


def looser_kind(rule, kind):
    if rule.happens(25):
        return UNTOLD
    return kind[:1] + tuple([looser_kind(rule, part) for part in kind[1:]])


def changed_kinds(tree, change):
    """The program with each written kind as change tells it."""
    new = with_written(tree, [change(kind) for kind in written(tree)])
    return with_parts(new, [changed_kinds(part, change) for part in parts(new)])


def looser_program(tree, seed):
    """The program with some parts of its written kinds put untold."""
    rule = Counting(seed)
    return changed_kinds(tree, lambda kind: looser_kind(rule, kind))


def other_program(tree, seed):
    """The program with some of its written kinds put otherwise."""
    maker = Maker(seed)

    def change(kind):
        return looser_kind(maker.rule, maker.kind(3)) if maker.rule.happens(30) else kind
    return changed_kinds(tree, change)


def moved(tree, move):
    """The program with other places."""
    new = tree[:1] + (move(tree[1]),) + tree[2:]
    return with_parts(new, [moved(part, move) for part in parts(new)])


def scattered(place):
    """Another place for each, in no order: 7919 is prime to 10000."""
    return (place * 7919 + 13) % 10000


def backwards(place):
    return 9999 - place
