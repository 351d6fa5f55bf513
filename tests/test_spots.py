"""Spots, programs loosened, and programs that differ in their written kinds alone."""

import itertools
import unittest

from blamewise.errors import NoFit
from blamewise.looker import looked
from blamewise.meets import join, looser, meet, same
from blamewise.spots import joined, looser_tree, loosened, met, spots
from blamewise.texts import read, show
from blamewise.trees import places, with_written, written
from tests.counting import Counting
from tests.many_kinds import DEEP_KINDS, UNTOLD
from tests.many_programs import backwards, changed_kinds, looser_program, moved, other_program, scattered, told_programs
from tests.samples import NODES, kind_of_depth, kind_text

TOLD = told_programs(60, seed=41)

# (program, how many spots)
SPOTS = [
    ("7", 0),
    ("(as ? 7)", 0),
    ("(+ 1 (let x 2 x))", 0),
    ("(as whole 7)", 1),
    ("(as truth 7)", 1),
    ("(as (row whole) 7)", 2),
    ("(as (row ?) 7)", 1),
    ("(as (to whole truth) 7)", 3),
    ("(as (to ? (pair ? truth)) 7)", 3),
    ("(fn x whole x)", 1),
    ("(fn x ? x)", 0),
    ("(fn x (pair whole whole) x)", 3),
    ("(self f x whole truth x)", 2),
    ("(self f x ? truth x)", 1),
    ("(self f x whole ? x)", 1),
    ("(self f x (row whole) (to whole ?) x)", 4),
    ("(row whole)", 1),
    ("(row (row ?) 1 (as whole 2))", 2),
    ("(row ?)", 0),
    ("(pair (as whole 1) (pair (as truth 2) (row (row whole))))", 4),
    ("(if (as whole 1) (as whole 2) (as whole 3))", 3),
    (f"(as {kind_text(6)} 1)", 6),
    ("(as (to (to (to (to (to whole whole) ?) ?) ?) ?) 1)", 7),
    ("(call (fn x whole x) (as (row (row truth)) 1))", 4),
]

# (program, bits, the program loosened by them)
LOOSENED = [
    ("(as whole 7)", 1, "(as ? 7)"),
    ("(as (to whole truth) 7)", 1, "(as ? 7)"),
    ("(as (to whole truth) 7)", 2, "(as (to ? truth) 7)"),
    ("(as (to whole truth) 7)", 4, "(as (to whole ?) 7)"),
    ("(as (to whole truth) 7)", 6, "(as (to ? ?) 7)"),
    # A spot and one within it: the one within is gone with it.
    ("(as (to whole truth) 7)", 3, "(as ? 7)"),
    ("(as (to (row whole) truth) 7)", 2 + 4, "(as (to ? truth) 7)"),
    ("(as (to (row whole) truth) 7)", 8, "(as (to (row whole) ?) 7)"),
    # A ? is no spot, and has no number.
    ("(as (to ? truth) 7)", 2, "(as (to ? ?) 7)"),
    ("(pair (as ? 1) (as whole 2))", 1, "(pair (as ? 1) (as ? 2))"),
    # A kind itself, then its first part's spots, then its second part's.
    ("(as (pair (to whole truth) (row whole)) 7)", 2, "(as (pair ? (row whole)) 7)"),
    ("(as (pair (to whole truth) (row whole)) 7)", 4, "(as (pair (to ? truth) (row whole)) 7)"),
    ("(as (pair (to whole truth) (row whole)) 7)", 8, "(as (pair (to whole ?) (row whole)) 7)"),
    ("(as (pair (to whole truth) (row whole)) 7)", 16, "(as (pair (to whole truth) ?) 7)"),
    ("(as (pair (to whole truth) (row whole)) 7)", 32, "(as (pair (to whole truth) (row ?)) 7)"),
    # A self's two kinds in their order, then what is within it.
    ("(self f x (row whole) truth (as whole x))", 1, "(self f x ? truth (as whole x))"),
    ("(self f x (row whole) truth (as whole x))", 2, "(self f x (row ?) truth (as whole x))"),
    ("(self f x (row whole) truth (as whole x))", 4, "(self f x (row whole) ? (as whole x))"),
    ("(self f x (row whole) truth (as whole x))", 8, "(self f x (row whole) truth (as ? x))"),
    # Nodes in order: a node, all of its first part, all of its second part.
    ("(row whole (as truth (as whole 1)) (as truth 2))", 1, "(row ? (as truth (as whole 1)) (as truth 2))"),
    ("(row whole (as truth (as whole 1)) (as truth 2))", 2, "(row whole (as ? (as whole 1)) (as truth 2))"),
    ("(row whole (as truth (as whole 1)) (as truth 2))", 4, "(row whole (as truth (as ? 1)) (as truth 2))"),
    ("(row whole (as truth (as whole 1)) (as truth 2))", 8, "(row whole (as truth (as whole 1)) (as ? 2))"),
    ("(if (fn x whole 1) (fn y (row truth) 2) (row whole 3))", 13, "(if (fn x ? 1) (fn y (row ?) 2) (row ? 3))"),
    ("(call (fn x whole x) y)", 1, "(call (fn x ? x) y)"),
]


def loosened_by_counting(tree, bits):
    """The program loosened, told another way."""
    numbers = itertools.count()

    def change(kind):
        if kind == UNTOLD:
            return kind
        number = next(numbers)
        parts = tuple([change(part) for part in kind[1:]])
        return UNTOLD if bits // 2 ** number % 2 else kind[:1] + parts
    return changed_kinds(tree, change)


class SpotsTest(unittest.TestCase):
    def test_how_many(self):
        for text, many in SPOTS:
            with self.subTest(text=text):
                self.assertEqual(spots(read(text)), many)
                self.assertEqual(spots(moved(read(text), scattered)), many)

    def test_of_kinds_up_to_six_deep(self):
        for kind in DEEP_KINDS:
            told = str(kind).count("'") // 2 - str(kind).count("?")
            self.assertEqual(spots(("as", 0, kind, ("whole", 1, 1))), told)
            self.assertEqual(spots(("self", 0, "f", "x", kind, kind, ("whole", 1, 1))), 2 * told)

    def test_of_nodes_of_every_word(self):
        for node, _, kinds, _ in NODES:
            self.assertEqual(spots(node), sum(str(kind).count("'") // 2 - str(kind).count("?") for kind in kinds))


class LoosenedTest(unittest.TestCase):
    def test_by_hand(self):
        for text, bits, wanted in LOOSENED:
            with self.subTest(text=text, bits=bits):
                self.assertEqual(show(loosened(read(text), bits)), wanted)
                self.assertEqual(loosened(moved(read(text), backwards), bits), moved(read(wanted), backwards))

    def test_by_no_bits_and_by_all(self):
        for tree in [read(text) for text, _ in SPOTS] + TOLD:
            many = spots(tree)
            self.assertEqual(loosened(tree, 0), tree)
            loosest = changed_kinds(tree, lambda kind: UNTOLD)
            self.assertEqual(loosened(tree, 2 ** many - 1), loosest)
            self.assertEqual(loosened(loosest, 2 ** many - 1), loosest)
            self.assertEqual(spots(loosest), 0)

    def test_by_each_bit_alone_and_by_several(self):
        rule = Counting(42)
        for tree in [read(text) for text, _ in SPOTS] + TOLD:
            many = spots(tree)
            drawn = [rule.below(2 ** 20) ** 3 % 2 ** many for _ in range(10)]
            for bits in [2 ** number for number in range(many)] + drawn:
                self.assertEqual(loosened(tree, bits), loosened_by_counting(tree, bits))

    def test_bits_beyond_the_spots(self):
        for tree in [read(text) for text, _ in SPOTS] + TOLD[:20]:
            many = spots(tree)
            for bits in (2 ** many, 2 ** many * 5, 2 ** 1000, 10 ** 400 - 10 ** 400 % 2 ** many):
                self.assertEqual(loosened(tree, bits), tree)
            self.assertEqual(loosened(tree, 10 ** 399 + 1), loosened(tree, (10 ** 399 + 1) % 2 ** many))
            self.assertEqual(loosened(tree, 10 ** 400 - 1), loosened_by_counting(tree, 10 ** 400 - 1))

    def test_nothing_but_written_kinds_differs(self):
        for tree in TOLD:
            other = loosened(tree, 0b101101)
            self.assertEqual(places(other), places(tree))
            self.assertEqual(changed_kinds(other, lambda kind: UNTOLD), changed_kinds(tree, lambda kind: UNTOLD))

    def test_loosened_programs_are_looser_and_taken(self):
        rule = Counting(43)
        for tree in TOLD:
            for _ in range(5):
                bits = rule.below(2 ** 20) ** 3
                other = loosened(tree, bits)
                looked(other)
                self.assertTrue(looser_tree(tree, other))
                self.assertEqual(looser_tree(other, tree), other == tree)


class LooserTest(unittest.TestCase):
    def test_by_hand(self):
        for text, other, answer in [
            ("(as whole 1)", "(as whole 1)", True),
            ("(as whole 1)", "(as ? 1)", True),
            ("(as ? 1)", "(as whole 1)", False),
            ("(as whole 1)", "(as truth 1)", False),
            ("(as (to whole truth) 1)", "(as (to ? truth) 1)", True),
            ("(as (to ? truth) 1)", "(as (to whole ?) 1)", False),
            ("(self f x whole ? x)", "(self f x ? whole x)", False),
            ("(self f x whole whole x)", "(self f x whole ? x)", True),
            ("(self f x whole whole x)", "(self f x ? whole x)", True),
            ("(pair (as whole 1) (as ? 2))", "(pair (as ? 1) (as whole 2))", False),
            ("(pair (as whole 1) (as ? 2))", "(pair (as ? 1) (as ? 2))", True),
            ("(row whole (as ? 1))", "(row ? (as whole 1))", False),
            ("(as ? (as whole 1))", "(as ? (as ? 1))", True),
            ("(as whole 1)", "(as ? 2)", False),
            ("(as whole 1)", "1", False),
            ("(row ? 1)", "(row ? 1 2)", False),
            ("(row ? 1 2)", "(row ? 1)", False),
            ("(row ?)", "(row ? 1)", False),
        ]:
            with self.subTest(text=text, other=other):
                self.assertIs(looser_tree(read(text), read(other)), answer)

    def test_unlike_places(self):
        tree = read("(as whole 1)")
        self.assertFalse(looser_tree(tree, moved(tree, scattered)))
        self.assertTrue(looser_tree(moved(tree, scattered), moved(tree, scattered)))


# (program, another one, the place of the first node that is unlike)
UNLIKE = [
    # another word
    ("1", "yes", 0),
    ("(one (pair 1 2))", "(two (pair 1 2))", 0),
    ("(+ 1 (one 2))", "(+ 1 (size 2))", 2),
    ("(fn x ? x)", "(self f x ? ? x)", 0),
    ("(fn x ? 1)", "(as ? 1)", 0),
    ("(call 1 2)", "(pair 1 2)", 0),
    ("(call 1 2)", "(at 1 2)", 0),
    ("x", "1", 0),
    # another name
    ("(fn x ? 1)", "(fn y ? 1)", 0),
    ("(self f x ? ? 1)", "(self g x ? ? 1)", 0),
    ("(self f x ? ? 1)", "(self f y ? ? 1)", 0),
    ("(let x 1 2)", "(let y 1 2)", 0),
    ("(let x 1 x)", "(let x 1 y)", 2),
    ("(fn x whole x)", "(fn y truth y)", 0),
    # another number
    ("(pair 1 2)", "(pair 1 3)", 2),
    ("(pair 1 2)", "(pair -1 2)", 1),
    ("(as whole (given 1))", "(as ? (given 2))", 1),
    # another truth
    ("(if yes 1 2)", "(if no 1 2)", 1),
    # another sign
    ("(+ 1 2)", "(- 1 2)", 0),
    ("(if (< 1 2) 3 4)", "(if (= 1 2) 3 4)", 1),
    # another number of parts
    ("(row ? 1)", "(row ? 1 2)", 0),
    ("(pair 1 (row ? 2 3))", "(pair 1 (row ? 2))", 2),
    ("(row ?)", "(row ? 1)", 0),
    # The first of several in order, whatever the kinds ahead of it are.
    ("(pair (+ 1 2) (+ 3 4))", "(pair (+ 1 9) (- 3 4))", 3),
    ("(as whole (pair 1 2))", "(as truth (pair 1 3))", 3),
    ("(row whole (row truth 1 2) 3)", "(row truth (row whole 1 5) 6)", 3),
    ("(pair (row whole) (fn x whole x))", "(pair (row truth) (fn x whole y))", 3),
]

# (alike programs whose written kinds part, the place of the first node at which they do, their join)
PARTING = [
    ("(as whole 1)", "(as truth 1)", 0, "(as ? 1)"),
    ("(as (to whole whole) 1)", "(as (to whole truth) 1)", 0, "(as (to whole ?) 1)"),
    ("(pair (as ? 1) (as whole 2))", "(pair (as truth 1) (as truth 2))", 3, "(pair (as ? 1) (as ? 2))"),
    ("(self f x whole whole 1)", "(self f x whole truth 1)", 0, "(self f x whole ? 1)"),
    ("(self f x whole whole 1)", "(self f x truth ? 1)", 0, "(self f x ? ? 1)"),
    ("(as ? (row whole (as whole 1)))", "(as whole (row truth (as truth 1)))", 1, "(as ? (row ? (as ? 1)))"),
    ("(pair (row (row whole)) (row whole))", "(pair (row (row truth)) (row truth))", 1,
     "(pair (row (row ?)) (row ?))"),
    ("(pair (as (row ?) 1) (as ? (as whole 2)))", "(pair (as (row whole) 1) (as whole (as truth 2)))", 4,
     "(pair (as (row ?) 1) (as ? (as ? 2)))"),
]


class BothTest(unittest.TestCase):
    def refuse(self, told, tree, other, place):
        with self.assertRaises(NoFit) as caught:
            told(tree, other)
        self.assertEqual(caught.exception.place, place)

    def test_unlike_programs(self):
        for text, other, place in UNLIKE:
            with self.subTest(text=text, other=other):
                for told in (joined, met):
                    self.refuse(told, read(text), read(other), place)
                    self.refuse(told, read(other), read(text), place)
                    self.refuse(told, moved(read(text), backwards), moved(read(other), backwards), backwards(place))
                self.assertFalse(looser_tree(read(text), read(other)))

    def test_another_place(self):
        tree = read("(pair (+ 1 2) (+ 3 4))")
        for number in range(7):
            other = moved(tree, lambda place: 50 if place == number else place)
            for told in (joined, met):
                self.refuse(told, tree, other, number)
                self.refuse(told, other, tree, 50)
            self.assertFalse(looser_tree(tree, other))

    def test_written_kinds_that_part(self):
        for text, other, place, both in PARTING:
            with self.subTest(text=text, other=other):
                self.refuse(met, read(text), read(other), place)
                self.refuse(met, read(other), read(text), place)
                self.refuse(met, moved(read(text), scattered), moved(read(other), scattered), scattered(place))
                self.assertEqual(show(joined(read(text), read(other))), both)
                self.assertEqual(show(joined(read(other), read(text))), both)

    def test_by_hand(self):
        for text, other, wanted_join, wanted_meet in [
            ("1", "1", "1", "1"),
            ("(as whole 1)", "(as ? 1)", "(as ? 1)", "(as whole 1)"),
            ("(as (to ? truth) 1)", "(as (to whole ?) 1)", "(as (to ? ?) 1)", "(as (to whole truth) 1)"),
            ("(self f x whole ? x)", "(self f x ? truth x)", "(self f x ? ? x)", "(self f x whole truth x)"),
            ("(row ? (as whole 1) 2)", "(row truth (as ? 1) 2)", "(row ? (as ? 1) 2)", "(row truth (as whole 1) 2)"),
        ]:
            self.assertEqual(show(joined(read(text), read(other))), wanted_join)
            self.assertEqual(show(met(read(text), read(other))), wanted_meet)

    def test_two_loosened_ones_of_one_program(self):
        rule = Counting(44)
        for number, tree in enumerate(TOLD):
            one, other = loosened(tree, rule.below(2 ** 20) ** 2), looser_program(tree, number)
            for inner in (one, other):
                self.assertTrue(looser_tree(met(one, other), inner))
                self.assertTrue(looser_tree(inner, joined(one, other)))
            self.assertTrue(looser_tree(tree, met(one, other)))
            self.assertEqual(met(one, other), met(other, one))
            self.assertEqual(joined(one, other), joined(other, one))
            for found, kind_told in ((met(one, other), meet), (joined(one, other), join)):
                self.assertEqual(kinds_of(found), [kind_told(*kinds) for kinds in zip(kinds_of(one), kinds_of(other))])
                looked(found)

    def test_alike_programs_with_other_kinds(self):
        parted = 0
        for number, tree in enumerate(TOLD):
            other = other_program(tree, number + 70)
            pairs = list(zip(kinds_of(tree), kinds_of(other)))
            self.assertEqual(kinds_of(joined(tree, other)), [join(*kinds) for kinds in pairs])
            self.assertEqual(looser_tree(tree, other), all(looser(*kinds) for kinds in pairs))
            if all(same(*kinds) for kinds in pairs):
                self.assertEqual(kinds_of(met(tree, other)), [meet(*kinds) for kinds in pairs])
            else:
                parted += 1
                with self.assertRaises(NoFit):
                    met(tree, other)
        self.assertGreater(parted, 10)

    def test_the_same_answer_behind_a_refusal(self):
        one, other = read("(as (to ? truth) 1)"), read("(as (to whole ?) 1)")
        first = (met(one, other), joined(one, other), loosened(one, 2), spots(other))
        with self.assertRaises(NoFit):
            met(one, read("(as whole 1)"))
        self.assertEqual((met(one, other), joined(one, other), loosened(one, 2), spots(other)), first)


def kinds_of(tree):
    """All written kinds of the program, in order."""
    found = []
    changed_kinds(tree, lambda kind: found.append(kind) or kind)
    return found


class DeepTest(unittest.TestCase):
    def test_kinds_that_the_looker_would_refuse(self):
        tree = ("as", 0, kind_of_depth(6), ("name", 1, "x"))
        self.assertEqual(loosened(tree, 32), with_written(tree, [read_deep("?")]))
        self.assertEqual(met(tree, loosened(tree, 8)), tree)
        self.assertEqual(joined(tree, loosened(tree, 8)), loosened(tree, 8))
        self.assertEqual(written(loosened(tree, 1)), [UNTOLD])


def read_deep(leaf):
    kind = (leaf,)
    for _ in range(5):
        kind = ("row", kind)
    return kind


if __name__ == "__main__":
    unittest.main()
