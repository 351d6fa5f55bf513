"""The programs that the looker refuses, with all fields, and which refusal comes first."""

import unittest

from blamewise.errors import BlameError, NoName, Parted, TooDeep
from blamewise.looker import kind_of, looked
from blamewise.meets import parting
from blamewise.ready import deepest, looks_of, ready
from blamewise.texts import read, read_kind
from blamewise.trees import parts, places, with_parts
from tests.many_kinds import UNTOLD
from tests.many_programs import backwards, moved, other_program, scattered, told_programs
from tests.samples import kind_text

K2 = kind_text(2)
K3 = kind_text(3)
K4 = kind_text(4)
K5 = kind_text(5)
K6 = kind_text(6)

ASKED = [looked, kind_of, looks_of, ready, deepest]

# (program, the place of the first free name)
NO_NAMES = [
    ("x", 0),
    ("(pair x y)", 1),
    ("(let x x x)", 1),
    ("(fn x whole y)", 1),
    ("(self f x whole whole (call g x))", 2),
    # A free name goes ahead of what comes earlier in order.
    (f"(pair (as {K5} 1) x)", 3),
    (f"(fn x {K5} y)", 1),
    ("(pair (+ yes 1) x)", 4),
    ("(+ yes x)", 2),
    ("(if 1 2 x)", 3),
    (f"(pair (call 1 2) (pair (as {K6} 1) (pair x y)))", 8),
    (f"(as {K5} (row whole yes x))", 3),
]

# (program, the place of what is too deep)
TOO_DEEP = [
    # Written kinds, ahead of the parts of their node.
    (f"(as {K5} (as ? 1))", 0),
    (f"(as {K6} (as ? 1))", 0),
    (f"(as {K5} (+ yes 1))", 0),
    (f"(fn x {K5} (+ yes 1))", 0),
    (f"(self f x {K5} whole (+ yes 1))", 0),
    (f"(self f x whole {K5} (+ yes 1))", 0),
    (f"(self f x {K5} {K5} (+ yes 1))", 0),
    (f"(row {K5})", 0),
    (f"(row {K5} (+ yes 1))", 0),
    (f"(size (row {K6}))", 1),
    ("(as (to ? (to ? (to ? (to ? ?)))) 1)", 0),
    ("(as (pair (pair (pair (pair ? ?) ?) ?) ?) 1)", 0),
    # A node's own kind.
    (f"(fn x {K4} 1)", 0),
    (f"(fn x whole (as {K4} (as ? 1)))", 0),
    (f"(fn x {K3} (fn y whole x))", 0),
    (f"(self f x {K4} whole 1)", 0),
    (f"(self f x whole {K4} (as ? 1))", 0),
    (f"(pair (as {K4} (as ? 1)) 1)", 0),
    (f"(pair 1 (as {K4} (as ? 1)))", 0),
    (f"(row {K4})", 0),
    (f"(row {K4} (as ? 1))", 0),
    (f"(size (row {K4}))", 1),
    (f"(one (pair 1 (as {K4} (as ? 1))))", 1),
    # A name's own kind, ahead of that of the self which binds it.
    (f"(self f x {K4} whole (call f x))", 2),
    (f"(self f x whole {K4} (call f x))", 2),
    (f"(self f x {K4} ? f)", 1),
    (f"(self f x {K4} whole (let g f 1))", 2),
    (f"(self f x {K4} whole (size (row ? 1 f)))", 4),
    # With both names alike the argument counts, which is not too deep itself.
    (f"(self x x {K4} ? x)", 0),
    (f"(self f x {K4} whole (let f 1 f))", 0),
]

# (program, place, kind, by, wanted, way)
PARTED = [
    ("(self f x whole truth x)", 1, "whole", 0, "truth", ()),
    ("(self f x whole (row truth) (row whole))", 1, "(row whole)", 0, "(row truth)", ("item",)),
    ("(call 1 2)", 1, "whole", 0, "(to ? ?)", ()),
    ("(call yes 2)", 1, "truth", 0, "(to ? ?)", ()),
    ("(call (row whole) 2)", 1, "(row whole)", 0, "(to ? ?)", ()),
    ("(call (pair 1 2) 2)", 1, "(pair whole whole)", 0, "(to ? ?)", ()),
    ("(call (fn x whole x) yes)", 3, "truth", 0, "whole", ()),
    ("(call (fn x (pair ? (row truth)) x) (pair 1 (row whole)))", 3, "(pair whole (row whole))", 0,
     "(pair ? (row truth))", ("two", "item")),
    ("(call (fn f (to whole ?) 1) (fn x truth x))", 3, "(to truth truth)", 0, "(to whole ?)", ("arg",)),
    ("(if 1 2 3)", 1, "whole", 0, "truth", ()),
    ("(if (pair 1 2) 2 3)", 1, "(pair whole whole)", 0, "truth", ()),
    ("(if yes 1 no)", 3, "truth", 2, "whole", ()),
    ("(if yes (fn x whole 1) (fn x truth 1))", 4, "(to truth whole)", 2, "(to whole whole)", ("arg",)),
    ("(if yes (pair 1 (as ? 1)) (pair yes 1))", 6, "(pair truth whole)", 2, "(pair whole ?)", ("one",)),
    ("(if yes (if no 1 2) (row whole 1 2))", 6, "(row whole)", 2, "whole", ()),
    ("(+ yes 1)", 1, "truth", 0, "whole", ()),
    ("(+ 1 yes)", 2, "truth", 0, "whole", ()),
    ("(- (row ?) 1)", 1, "(row ?)", 0, "whole", ()),
    ("(* 1 (fn x ? x))", 2, "(to ? ?)", 0, "whole", ()),
    ("(< (pair 1 2) 1)", 1, "(pair whole whole)", 0, "whole", ()),
    ("(= 1 (< 1 2))", 2, "truth", 0, "whole", ()),
    ("(row whole yes)", 1, "truth", 0, "whole", ()),
    ("(row whole 1 2 3 yes)", 4, "truth", 0, "whole", ()),
    ("(row (to ? whole) (fn x ? 1) (fn x ? yes))", 3, "(to ? truth)", 0, "(to ? whole)", ("res",)),
    ("(at 1 0)", 1, "whole", 0, "(row ?)", ()),
    ("(at (pair 1 2) 0)", 1, "(pair whole whole)", 0, "(row ?)", ()),
    ("(at (row whole 1) yes)", 3, "truth", 0, "whole", ()),
    ("(at (as ? 1) yes)", 3, "truth", 0, "whole", ()),
    ("(size 1)", 1, "whole", 0, "(row ?)", ()),
    ("(size (fn x ? x))", 1, "(to ? ?)", 0, "(row ?)", ()),
    ("(one 1)", 1, "whole", 0, "(pair ? ?)", ()),
    ("(one (row ?))", 1, "(row ?)", 0, "(pair ? ?)", ()),
    ("(two yes)", 1, "truth", 0, "(pair ? ?)", ()),
    ("(two (row ?))", 1, "(row ?)", 0, "(pair ? ?)", ()),
    ("(as truth 1)", 1, "whole", 0, "truth", ()),
    ("(as (to (row whole) ?) (fn x (row truth) 1))", 1, "(to (row truth) whole)", 0, "(to (row whole) ?)",
     ("arg", "item")),
    # Deeper in the program, with the kinds that the names are bound to.
    ("(let x yes (let y x (+ 1 y)))", 6, "truth", 4, "whole", ()),
    ("(fn f (to whole truth) (+ 1 (call f 1)))", 3, "truth", 1, "whole", ()),
    ("(let x 1 (let x yes (+ x 1)))", 5, "truth", 4, "whole", ()),
    ("(self x x whole whole (call x x))", 2, "whole", 1, "(to ? ?)", ()),
    ("(self f x whole whole (call f f))", 3, "(to whole whole)", 1, "whole", ()),
    ("(+ 1 (one (pair yes 2)))", 2, "truth", 0, "whole", ()),
    ("(+ 1 (two (pair 1 (row ?))))", 2, "(row ?)", 0, "whole", ()),
    ("(at (row whole) (at (row truth) 0))", 2, "truth", 0, "whole", ()),
]

# The same for programs with two or more faults: which one comes first.
FIRST = [
    ("(+ yes no)", 1, "truth", 0, "whole", ()),
    (f"(+ yes (as {K5} 1))", 1, "truth", 0, "whole", ()),
    (f"(pair (+ 1 yes) (as {K5} 1))", 3, "truth", 1, "whole", ()),
    ("(call 1 (+ yes 1))", 1, "whole", 0, "(to ? ?)", ()),
    ("(call (fn x whole x) (if 1 2 3))", 4, "whole", 3, "truth", ()),
    ("(call (fn x truth x) (+ yes 1))", 4, "truth", 3, "whole", ()),
    ("(call (pair (+ yes 1) 1) 1)", 3, "truth", 2, "whole", ()),
    ("(if 1 (+ yes 1) 1)", 1, "whole", 0, "truth", ()),
    ("(if yes (pair (+ yes 1) 1) (+ no 1))", 4, "truth", 3, "whole", ()),
    ("(if yes 1 (pair (+ yes 1) 1))", 5, "truth", 4, "whole", ()),
    ("(if yes 1 (row whole yes))", 4, "truth", 3, "whole", ()),
    ("(row whole yes (+ no 1))", 1, "truth", 0, "whole", ()),
    ("(row whole (row whole yes) 1)", 2, "truth", 1, "whole", ()),
    ("(at yes (+ no 1))", 1, "truth", 0, "(row ?)", ()),
    ("(as truth (+ yes 1))", 2, "truth", 1, "whole", ()),
    ("(self f x whole truth (+ yes 1))", 2, "truth", 1, "whole", ()),
    # A part is held ahead of the node's own kind.
    (f"(row {K4} yes)", 1, "truth", 0, K4, ()),
    (f"(self f x whole {K4} 1)", 1, "whole", 0, K4, ()),
    (f"(fn x {K4} (+ yes 1))", 2, "truth", 1, "whole", ()),
    (f"(pair (as {K4} (as ? 1)) (+ yes 1))", 5, "truth", 4, "whole", ()),
    (f"(pair (+ yes 1) (row {K4}))", 2, "truth", 1, "whole", ()),
]

# (program, place): too deep ahead of what parts.
DEEP_FIRST = [
    (f"(+ (as {K5} 1) yes)", 1),
    (f"(+ (row {K4}) yes)", 1),
    (f"(call (row {K4}) (+ yes 1))", 1),
    (f"(if yes 1 (row {K4}))", 3),
    (f"(if yes (row {K4}) 1)", 2),
    (f"(if (row {K4}) 1 yes)", 1),
    (f"(pair (row {K4}) (+ yes 1))", 1),
    (f"(pair (row {K4}) (as {K5} 1))", 1),
    (f"(pair (as {K5} 1) (row {K4}))", 1),
    (f"(as {K5} (as {K6} 1))", 0),
    (f"(as {K4} (as {K6} 1))", 1),
    (f"(row {K4} (row {K4}))", 1),
]


class RefusalsTest(unittest.TestCase):
    def refusal(self, tree, error_class):
        """The refusal, the same one whoever is asked."""
        fields = []
        for ask in ASKED:
            with self.assertRaises(error_class) as caught:
                ask(tree)
            self.assertIs(type(caught.exception), error_class)
            self.assertIsInstance(caught.exception, BlameError)
            fields.append({name: getattr(caught.exception, name)
                           for name in ("place", "kind", "by", "wanted", "way") if hasattr(caught.exception, name)})
        self.assertEqual(fields, fields[:1] * len(ASKED))
        return fields[0]

    def refuse_at_place(self, samples, error_class):
        for text, place in samples:
            for move in (int, scattered, backwards):
                with self.subTest(text=text, move=move):
                    tree = moved(read(text), move)
                    self.assertEqual(self.refusal(tree, error_class), {"place": move(place)})

    def refuse_parted(self, samples):
        for text, place, kind, by, wanted, way in samples:
            for move in (int, scattered, backwards):
                with self.subTest(text=text, move=move):
                    tree = moved(read(text), move)
                    self.assertEqual(self.refusal(tree, Parted), {
                        "place": move(place), "kind": read_kind(kind), "by": move(by),
                        "wanted": read_kind(wanted), "way": way})

    def test_free_names_go_ahead_of_all_else(self):
        self.refuse_at_place(NO_NAMES, NoName)

    def test_too_deep(self):
        self.refuse_at_place(TOO_DEEP, TooDeep)

    def test_kinds_that_part(self):
        self.refuse_parted(PARTED)

    def test_which_one_of_two_comes_first(self):
        self.refuse_parted(FIRST)
        self.refuse_at_place(DEEP_FIRST, TooDeep)

    def test_one_deeper_than_what_is_taken(self):
        # Each form with the depth up to which a kind in it is taken.
        for form, most in [
            ("(as {} (as ? 1))", 4), ("(let x (as {} (as ? 1)) 1)", 4), ("(call (fn x ? 1) (as {} (as ? 1)))", 4),
            ("(fn x {} 1)", 3), ("(fn x whole (as {} (as ? 1)))", 3),
            ("(self f x {} whole (call f x))", 3), ("(self f x whole {} (call f x))", 3),
            ("(row {})", 3), ("(size (row {} (as ? 1)))", 3),
            ("(pair 1 (as {} (as ? 1)))", 3), ("(one (pair (as {} (as ? 1)) 1))", 3),
        ]:
            for depth in range(1, 7):
                text = form.format(kind_text(depth))
                with self.subTest(text=text):
                    if depth <= most:
                        looked(read(text))
                    else:
                        self.refusal(read(text), TooDeep)

    def test_refused_as_often_as_it_is_asked(self):
        taken = read("(let x (as ? 1) (+ x 2))")
        first = looked(taken)
        for _ in range(2):
            self.refuse_parted(PARTED[:3])
            self.assertEqual(looked(taken), first)
            self.refuse_at_place(TOO_DEEP[:3], TooDeep)
            self.assertEqual(looked(taken), first)
            self.refuse_at_place(NO_NAMES[:3], NoName)
            self.assertEqual(looked(taken), first)


def made_untold(tree, place, new):
    """The program with the node at this place taken for a ?."""
    if tree[1] == place:
        return ("as", new, UNTOLD, tree)
    return with_parts(tree, [made_untold(part, place, new) for part in parts(tree)])


class MadeUntoldTest(unittest.TestCase):
    """Where kinds part, the program with that place made untold is taken there."""

    def check(self, tree):
        refused = []
        while True:
            try:
                looked(tree)
            except Parted as error:
                self.assertEqual(error.way, parting(error.kind, error.wanted))
                self.assertIsNotNone(error.way)
                self.assertIn(error.by, places(tree))
                self.assertIn(error.place, places(tree))
                self.assertNotIn(error.place, refused)
                new = 1 + max(places(tree))
                refused += [error.place, new]
                tree = made_untold(tree, error.place, new)
            except TooDeep:
                return refused
            else:
                return refused

    def test_the_programs_above(self):
        for text, place, _, _, _, _ in PARTED + FIRST:
            with self.subTest(text=text):
                self.assertEqual(self.check(read(text))[0], place)

    def test_many_programs(self):
        found = [self.check(other_program(tree, number)) for number, tree in enumerate(told_programs(200, seed=3))]
        self.assertGreater(len([refused for refused in found if refused]), 50)


if __name__ == "__main__":
    unittest.main()
