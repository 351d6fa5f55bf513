"""What is read from texts and what is written as texts."""

import unittest

from blamewise.texts import read, read_kind, show, show_kind
from blamewise.trees import nest, parts, places, with_parts
from tests.samples import KINDS, NODES, UNTOLD, WHOLE, kind_of_depth, kind_text, nest_text, nodes_text

PROGRAMS = [text for _, _, _, text in NODES] + [
    "(let twice (fn f (to whole whole) (fn x whole (call f (call f x)))) (call (call twice (fn x ? (+ x 1))) 5))",
    "(self f n whole whole (if (< n 1) 1 (* n (call f (- n 1)))))",
    "(at (row (pair whole ?) (pair 1 yes) (pair -2 (row ?))) (size (row (row ?) (row ?))))",
    "(as (to ? (row truth)) (one (two (pair no (pair free (given 7))))))",
]


def renumbered(tree):
    """The node with places in order from 0."""
    return numbered_from(tree, 0)[0]


def numbered_from(tree, place):
    """The node with places in order from this one, and the place that comes behind."""
    behind = place + 1
    found = []
    for part in parts(tree):
        new, behind = numbered_from(part, behind)
        found.append(new)
    return with_parts((tree[0], place) + tree[2:], found), behind


def glued(text):
    """The text with as few blanks as may be."""
    for bracket in "()":
        text = text.replace(" " + bracket, bracket).replace(bracket + " ", bracket)
    return text


def spread(text):
    """The text with blanks wherever they may stand."""
    words = text.replace("(", " ( ").replace(")", " ) ").split()
    return "   " + "  ".join(words) + "    "


class ShowTest(unittest.TestCase):
    def test_every_word(self):
        for node, _, _, text in NODES:
            with self.subTest(node=node):
                self.assertEqual(show(node), text)

    def test_every_kind(self):
        for kind, text in KINDS:
            with self.subTest(kind=kind):
                self.assertEqual(show_kind(kind), text)

    def test_nodes_within_nodes(self):
        tree = ("call", 3, ("fn", 7, "x", UNTOLD, ("row", 1, WHOLE, ())), ("size", 0, ("row", 2, UNTOLD, (
            ("whole", 4, -1), ("given", 5, 0)))))
        self.assertEqual(show(tree), "(call (fn x ? (row whole)) (size (row ? -1 (given 0))))")

    def test_long_numbers(self):
        self.assertEqual(show(("whole", 0, -(10 ** 40 - 1))), "-" + "9" * 40)


class ReadTest(unittest.TestCase):
    def test_every_word(self):
        for node, _, _, text in NODES:
            with self.subTest(text=text):
                self.assertEqual(read(text), renumbered(node))

    def test_kinds_of_things_read(self):
        self.assertIs(read("yes")[2], True)
        self.assertIs(read("no")[2], False)
        self.assertIs(type(read("1")[2]), int)
        self.assertIs(type(read("0")[2]), int)
        self.assertIs(type(read("(given 1)")[2]), int)
        self.assertIs(type(read("(row ?)")[3]), tuple)

    def test_every_kind(self):
        for kind, text in KINDS:
            with self.subTest(text=text):
                self.assertEqual(read_kind(text), kind)
                self.assertEqual(read_kind(spread(text)), kind)
                self.assertEqual(read_kind(glued(text)), kind)

    def test_places_are_in_order_from_0(self):
        for text in PROGRAMS:
            with self.subTest(text=text):
                tree = read(text)
                self.assertEqual(places(tree), list(range(len(places(tree)))))

    def test_a_whole_program_as_it_stands(self):
        self.assertEqual(
            read("(let x (row ? 1) (if yes (at x 0) (self f y whole truth x)))"),
            ("let", 0, "x",
             ("row", 1, ("?",), (("whole", 2, 1),)),
             ("if", 3, ("truth", 4, True),
              ("at", 5, ("name", 6, "x"), ("whole", 7, 0)),
              ("self", 8, "f", "y", ("whole",), ("truth",), ("name", 9, "x")))))

    def test_what_is_read_is_shown_as_it_was(self):
        for text in PROGRAMS:
            with self.subTest(text=text):
                self.assertEqual(show(read(text)), text)

    def test_what_is_shown_is_read_with_places_in_order(self):
        moved = [numbered_from(read(text), 50)[0] for text in PROGRAMS]
        for node in [sample[0] for sample in NODES] + moved:
            with self.subTest(node=node):
                self.assertEqual(read(show(node)), renumbered(node))

    def test_blanks_wherever_they_may_stand(self):
        for text in PROGRAMS:
            with self.subTest(text=text):
                self.assertEqual(read(spread(text)), read(text))

    def test_as_few_blanks_as_may_be(self):
        for text in PROGRAMS:
            with self.subTest(text=text):
                self.assertEqual(read(glued(text)), read(text))
        self.assertEqual(read("(row(row whole)(row whole 1)(row whole))"),
                         read("(row (row whole) (row whole 1) (row whole))"))
        self.assertEqual(read_kind("(to(row ?)(to ? ?))"), ("to", ("row", UNTOLD), ("to", UNTOLD, UNTOLD)))

    def test_names_that_read_like_other_words(self):
        for word in ["whole", "truth", "given", "name", "fn", "self", "call", "let", "if", "do", "row", "at",
                     "size", "pair", "one", "two", "as", "to", "look", "true", "fault", "yess", "noo", "y", "n"]:
            with self.subTest(word=word):
                self.assertEqual(read(word), ("name", 0, word))
                self.assertEqual(read(f"(fn {word} whole {word})"),
                                 ("fn", 0, word, WHOLE, ("name", 1, word)))
                self.assertEqual(read(f"(let {word} {word} {word})"),
                                 ("let", 0, word, ("name", 1, word), ("name", 2, word)))
                self.assertEqual(read(f"(self {word} {word} whole ? {word})"),
                                 ("self", 0, word, word, WHOLE, UNTOLD, ("name", 1, word)))
                self.assertEqual(read(f"(row whole {word})"), ("row", 0, WHOLE, (("name", 1, word),)))

    def test_free_names_are_read(self):
        self.assertEqual(read("(+ a b)"), ("do", 0, "+", ("name", 1, "a"), ("name", 2, "b")))


class BoundsTest(unittest.TestCase):
    """The near side of each bound; the far side stands in test_refusals.py."""

    def test_2000_signs(self):
        self.assertEqual(read("7" + " " * 1999), ("whole", 0, 7))
        self.assertEqual(read(" " * 1999 + "7"), ("whole", 0, 7))
        self.assertEqual(read_kind(" " * 995 + "whole" + " " * 1000), WHOLE)

    def test_40_figures(self):
        for figures in ("9" * 40, "1" + "0" * 39):
            self.assertEqual(read(figures), ("whole", 0, int(figures)))
            self.assertEqual(read("-" + figures), ("whole", 0, -int(figures)))

    def test_given_0_to_7(self):
        for number in range(8):
            self.assertEqual(read(f"(given {number})"), ("given", 0, number))

    def test_a_row_of_4(self):
        self.assertEqual(len(read("(row ? 1 2 3 4)")[3]), 4)

    def test_nest_of_8(self):
        for leaf in ("1", "x", "(given 7)", "(row (to ? ?))"):
            with self.subTest(leaf=leaf):
                self.assertEqual(nest(read(nest_text(8, leaf))), 8)

    def test_120_nodes(self):
        for nodes in (119, 120):
            self.assertEqual(len(places(read(nodes_text(nodes)))), nodes)

    def test_kinds_of_depth_6(self):
        kind = kind_of_depth(6)
        text = kind_text(6)
        self.assertEqual(read_kind(text), kind)
        self.assertEqual(read_kind(f"(to ? (pair {kind_text(4)} ?))"),
                         ("to", UNTOLD, ("pair", kind_of_depth(4), UNTOLD)))
        self.assertEqual(read(f"(fn x {text} 1)"), ("fn", 0, "x", kind, ("whole", 1, 1)))
        self.assertEqual(read(f"(self f x {text} {text} 1)"), ("self", 0, "f", "x", kind, kind, ("whole", 1, 1)))
        self.assertEqual(read(f"(row {text})"), ("row", 0, kind, ()))
        self.assertEqual(read(f"(as {text} 1)"), ("as", 0, kind, ("whole", 1, 1)))

    def test_a_deep_kind_in_a_deep_program(self):
        text = nest_text(8, f"(row {kind_text(6)})")
        self.assertEqual(show(read(text)), text)

    def test_names_of_1_and_8_letters(self):
        for name in ("a", "z", "abcdefgh", "zzzzzzzz"):
            self.assertEqual(read(name), ("name", 0, name))
            self.assertEqual(read(f"(fn {name} ? {name})"), ("fn", 0, name, UNTOLD, ("name", 1, name)))


if __name__ == "__main__":
    unittest.main()
