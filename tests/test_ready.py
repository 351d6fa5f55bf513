"""The looks of programs, programs made ready, and the same without their looks."""

import unittest

from blamewise.looker import looked
from blamewise.ready import bare, deepest, looks_of, ready
from blamewise.texts import read, read_kind
from blamewise.trees import parts, places
from tests.many_kinds import UNTOLD, WHOLE
from tests.many_programs import backwards, looser_program, moved, scattered, told_programs
from tests.samples import NODES, kind_of_depth, kind_text

TO = ("to", UNTOLD, UNTOLD)
ROW = ("row", UNTOLD)
PAIR = ("pair", UNTOLD, UNTOLD)
TRUTH = ("truth",)

# (program, its looks with kinds in texts, the greatest depth in them)
LOOKS = [
    ("7", [], 0),
    ("(call (fn x whole (+ x 1)) 2)", [], 0),
    ("(row ?)", [], 0),
    ("(fn x ? x)", [], 0),
    ("(fn x ? (pair x (fn y ? y)))", [], 0),
    ("(as ? 1)", [(1, "whole", "?")], 1),
    ("(let x (as ? 1) (+ x 2))", [(2, "whole", "?"), (4, "?", "whole")], 1),
    # At the E and at the F of a call.
    ("(fn f ? (call f 1))", [(2, "?", "(to ? ?)"), (3, "whole", "?")], 2),
    ("(fn f ? (call f f))", [(2, "?", "(to ? ?)")], 2),
    ("(call (fn x (row ?) 1) (row (row whole)))", [(3, "(row (row whole))", "(row ?)")], 3),
    ("(call (as ? (fn x whole x)) (as ? 1))",
     [(1, "?", "(to ? ?)"), (2, "(to whole whole)", "?"), (5, "whole", "?")], 2),
    # Within rows.
    ("(row ? 1 yes (row ? 2))", [(1, "whole", "?"), (2, "truth", "?"), (3, "(row ?)", "?"), (4, "whole", "?")], 2),
    ("(fn x ? (row whole 1 x 2 x))", [(3, "?", "whole"), (5, "?", "whole")], 1),
    # At an as, within another.
    ("(as truth (as ? 1))", [(1, "?", "truth"), (2, "whole", "?")], 1),
    ("(as (to ? whole) (fn x whole (as ? x)))", [(1, "(to whole ?)", "(to ? whole)"), (3, "whole", "?")], 2),
    # At the others that want a kind.
    ("(self f x ? whole x)", [(1, "?", "whole")], 1),
    ("(if (as ? 1) (as ? 2) 3)", [(1, "?", "truth"), (2, "whole", "?"), (4, "whole", "?"), (5, "whole", "?")], 1),
    ("(at (as ? 1) (as ? 2))", [(1, "?", "(row ?)"), (2, "whole", "?"), (3, "?", "whole"), (4, "whole", "?")], 2),
    ("(size (as ? 1))", [(1, "?", "(row ?)"), (2, "whole", "?")], 2),
    ("(one (as ? 1))", [(1, "?", "(pair ? ?)"), (2, "whole", "?")], 2),
    ("(two (as ? 1))", [(1, "?", "(pair ? ?)"), (2, "whole", "?")], 2),
    # The greatest depth may stand on either side, and in any look.
    (f"(as {kind_text(4)} (as ? 1))", [(1, "?", kind_text(4)), (2, "whole", "?")], 4),
    (f"(as ? (row {kind_text(3)}))", [(1, kind_text(4), "?")], 4),
    (f"(pair (as ? 1) (as ? (row {kind_text(2)})))", [(2, "whole", "?"), (4, kind_text(3), "?")], 3),
]

# (program, the same made ready)
READY = [
    ("(as ? 1)", ("as", 0, UNTOLD, ("look", 1, WHOLE, UNTOLD, ("whole", 1, 1)))),
    ("(fn f ? (call f 1))",
     ("fn", 0, "f", UNTOLD, ("call", 1, ("look", 2, UNTOLD, TO, ("name", 2, "f")),
                             ("look", 3, WHOLE, UNTOLD, ("whole", 3, 1))))),
    ("(as truth (as ? 1))",
     ("as", 0, TRUTH, ("look", 1, UNTOLD, TRUTH, ("as", 1, UNTOLD, ("look", 2, WHOLE, UNTOLD, ("whole", 2, 1)))))),
    ("(row ? 1 (row ? yes) (as ? 2))",
     ("row", 0, UNTOLD, (("look", 1, WHOLE, UNTOLD, ("whole", 1, 1)),
                         ("look", 2, ROW, UNTOLD,
                          ("row", 2, UNTOLD, (("look", 3, TRUTH, UNTOLD, ("truth", 3, True)),))),
                         ("as", 4, UNTOLD, ("look", 5, WHOLE, UNTOLD, ("whole", 5, 2)))))),
    ("(self f x ? whole (one x))",
     ("self", 0, "f", "x", UNTOLD, WHOLE,
      ("look", 1, UNTOLD, WHOLE, ("one", 1, ("look", 2, UNTOLD, PAIR, ("name", 2, "x")))))),
]

TOLD = told_programs(100, seed=5)
LOOSER = [looser_program(tree, number) for number, tree in enumerate(TOLD)]


def put_in(tree):
    """The looks in a program made ready, in the order of their nodes, each checked to stand round its node."""
    found = []
    if tree[0] == "look":
        assert tree[4][0] != "look" and tree[4][1] == tree[1] and len(tree) == 5
        found.append(tree[1:4])
    for part in parts(tree):
        found += put_in(part)
    return found


class LooksTest(unittest.TestCase):
    def test_looks_in_the_order_of_nodes(self):
        for text, looks, depth in LOOKS:
            for move in (int, scattered, backwards):
                with self.subTest(text=text, move=move):
                    tree = moved(read(text), move)
                    self.assertEqual(looks_of(tree), [(move(place), read_kind(kind), read_kind(other))
                                                      for place, kind, other in looks])
                    self.assertEqual(deepest(tree), depth)

    def test_a_look_stands_where_the_kinds_are_unlike(self):
        for tree in LOOSER:
            kinds, wanted = looked(tree)
            self.assertEqual(looks_of(tree), [(place, kinds[place], wanted[place]) for place in places(tree)
                                              if kinds[place] != wanted[place]])
        self.assertGreater(len([tree for tree in LOOSER if looks_of(tree)]), 40)

    def test_lists_told_are_new_each_time(self):
        for text, _, _ in LOOKS:
            tree = read(text)
            first = looks_of(tree)
            self.assertIs(type(first), list)
            kept = list(first)
            first.append("more")
            self.assertEqual(looks_of(tree), kept)

    def test_deepest_is_the_greatest_depth_at_a_look(self):
        for tree in LOOSER:
            kinds = [kind for look in looks_of(tree) for kind in look[1:]]
            self.assertEqual(deepest(tree), max([deep(kind) for kind in kinds], default=0))
            self.assertIs(type(deepest(tree)), int)


def deep(kind):
    return 1 + max([deep(part) for part in kind[1:]], default=0)


class ReadyTest(unittest.TestCase):
    def test_made_ready_as_it_stands(self):
        for text, wanted in READY:
            with self.subTest(text=text):
                self.assertEqual(ready(read(text)), wanted)

    def test_a_program_without_looks_stays(self):
        for tree in [read(text) for text, looks, _ in LOOKS if not looks] + TOLD:
            self.assertEqual(ready(tree), tree)
            self.assertEqual(looks_of(tree), [])
            self.assertEqual(deepest(tree), 0)

    def test_each_look_stands_round_its_node(self):
        for tree in [read(text) for text, _, _ in LOOKS] + LOOSER:
            for move in (int, scattered, backwards):
                other = moved(tree, move)
                self.assertEqual(put_in(ready(other)), looks_of(other))

    def test_bare_takes_the_looks_away_and_nothing_else(self):
        for text, wanted in READY:
            self.assertEqual(bare(wanted), read(text))
        for tree in [read(text) for text, _, _ in LOOKS] + LOOSER:
            self.assertEqual(bare(ready(tree)), tree)
            self.assertEqual(bare(tree), tree)

    def test_bare_of_each_word_with_looks_at_all_parts(self):
        for node, its_parts, _, _ in NODES:
            with self.subTest(node=node):
                self.assertEqual(bare(with_looks(node, its_parts)), node)

    def test_bare_of_a_program_as_deep_as_may_be(self):
        tree = read("(as ? " * 7 + "1" + ")" * 7)
        self.assertEqual(looks_of(tree), [(7, WHOLE, UNTOLD)])
        self.assertEqual(bare(ready(tree)), tree)
        tree = read("(as ? (as whole " * 3 + "(as ? 1)" + "))" * 3)
        self.assertEqual(len(looks_of(tree)), 7)
        self.assertEqual(bare(ready(tree)), tree)

    def test_bare_looks_at_no_kinds(self):
        # What the looker would refuse is told without its looks all the same.
        tree = ("do", 0, "+", ("look", 1, UNTOLD, WHOLE, ("name", 1, "x")), ("truth", 2, True))
        self.assertEqual(bare(tree), ("do", 0, "+", ("name", 1, "x"), ("truth", 2, True)))
        deep_kind = kind_of_depth(6)
        self.assertEqual(bare(("as", 0, deep_kind, ("whole", 1, 1))), ("as", 0, deep_kind, ("whole", 1, 1)))

    def test_the_same_answer_whatever_was_asked_ahead(self):
        first = [(looks_of(tree), ready(tree), deepest(tree)) for tree in LOOSER]
        again = [(looks_of(tree), ready(tree), deepest(tree)) for tree in reversed(LOOSER)]
        self.assertEqual(first, again[::-1])


def with_looks(node, its_parts):
    """The node with a look put round each of its parts."""
    looks = {part: ("look", part[1], WHOLE, UNTOLD, part) for part in its_parts}
    if node[0] == "row":
        return node[:3] + (tuple([looks[part] for part in node[3]]),)
    return tuple([looks.get(thing, thing) if isinstance(thing, tuple) else thing for thing in node])


if __name__ == "__main__":
    unittest.main()
