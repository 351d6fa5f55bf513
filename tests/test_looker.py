"""The kinds that the looker finds in programs that it takes, and those that it wants."""

import unittest

from blamewise.looker import kind_of, looked
from blamewise.meets import looser
from blamewise.ready import looks_of
from blamewise.texts import read, read_kind
from blamewise.trees import places
from tests.many_kinds import UNTOLD
from tests.many_programs import (backwards, changed_kinds, looser_program, moved, other_program, scattered,
                                 told_programs)
from tests.samples import kind_text

# (program, its kinds, the kinds wanted where they are other ones), by places, in texts.
PROGRAMS = [
    ("7", ["whole"], {}),
    ("-7", ["whole"], {}),
    ("yes", ["truth"], {}),
    ("no", ["truth"], {}),
    ("(given 3)", ["whole"], {}),
    ("(let x yes x)", ["truth", "truth", "truth"], {}),
    ("(let x 1 yes)", ["truth", "whole", "truth"], {}),
    ("(let x (as ? 1) x)", ["?", "?", "whole", "?"], {2: "?"}),
    ("(fn x whole x)", ["(to whole whole)", "whole"], {}),
    ("(fn x (row ?) yes)", ["(to (row ?) truth)", "truth"], {}),
    ("(fn x ? (+ x 1))", ["(to ? whole)", "whole", "?", "whole"], {2: "whole"}),
    ("(self f x whole ? (+ x 1))", ["(to whole ?)", "whole", "whole", "whole"], {1: "?"}),
    ("(self f x ? whole x)", ["(to ? whole)", "?"], {1: "whole"}),
    ("(self f x whole truth (call f x))", ["(to whole truth)", "truth", "(to whole truth)", "whole"], {}),
    ("(self f x whole ? f)", ["(to whole ?)", "(to whole ?)"], {1: "?"}),
    ("(call (fn x whole yes) 1)", ["truth", "(to whole truth)", "truth", "whole"], {}),
    ("(fn y ? (call (fn x whole x) y))", ["(to ? whole)", "whole", "(to whole whole)", "whole", "?"], {4: "whole"}),
    ("(call (fn x ? x) 1)", ["?", "(to ? ?)", "?", "whole"], {3: "?"}),
    ("(call (fn x (row ?) x) (row whole))", ["(row ?)", "(to (row ?) (row ?))", "(row ?)", "(row whole)"],
     {3: "(row ?)"}),
    ("(fn f ? (call f 1))", ["(to ? ?)", "?", "?", "whole"], {2: "(to ? ?)", 3: "?"}),
    ("(fn f ? (call f f))", ["(to ? ?)", "?", "?", "?"], {2: "(to ? ?)"}),
    ("(if yes 1 2)", ["whole", "truth", "whole", "whole"], {}),
    ("(if (as ? 1) 1 2)", ["whole", "?", "whole", "whole", "whole"], {1: "truth", 2: "?"}),
    ("(fn x ? (if x x 1))", ["(to ? ?)", "?", "?", "?", "whole"], {2: "truth", 4: "?"}),
    ("(fn x ? (if yes 1 x))", ["(to ? ?)", "?", "truth", "whole", "?"], {3: "?"}),
    ("(if yes (fn x ? 1) (fn x whole 1))",
     ["(to ? whole)", "truth", "(to ? whole)", "whole", "(to whole whole)", "whole"], {4: "(to ? whole)"}),
    ("(if yes (fn x whole 1) (fn x ? 1))",
     ["(to ? whole)", "truth", "(to whole whole)", "whole", "(to ? whole)", "whole"], {2: "(to ? whole)"}),
    ("(if no (pair 1 (as ? 2)) (pair (as ? 1) yes))",
     ["(pair ? ?)", "truth", "(pair whole ?)", "whole", "?", "whole", "(pair ? truth)", "?", "whole", "truth"],
     {2: "(pair ? ?)", 5: "?", 6: "(pair ? ?)", 8: "?"}),
    ("(+ 1 2)", ["whole", "whole", "whole"], {}),
    ("(- 1 2)", ["whole", "whole", "whole"], {}),
    ("(* 1 2)", ["whole", "whole", "whole"], {}),
    ("(< 1 2)", ["truth", "whole", "whole"], {}),
    ("(= 1 2)", ["truth", "whole", "whole"], {}),
    ("(fn x ? (= x 1))", ["(to ? truth)", "truth", "?", "whole"], {2: "whole"}),
    ("(fn x ? (< 1 x))", ["(to ? truth)", "truth", "whole", "?"], {3: "whole"}),
    ("(row whole)", ["(row whole)"], {}),
    ("(row ?)", ["(row ?)"], {}),
    ("(row truth yes)", ["(row truth)", "truth"], {}),
    ("(row ? 1 yes)", ["(row ?)", "whole", "truth"], {1: "?", 2: "?"}),
    ("(fn x ? (row whole 1 x 3))", ["(to ? (row whole))", "(row whole)", "whole", "?", "whole"], {3: "whole"}),
    ("(row (row ?) (row whole) (row ?) (row truth) (row (row ?)))",
     ["(row (row ?))", "(row whole)", "(row ?)", "(row truth)", "(row (row ?))"],
     {1: "(row ?)", 3: "(row ?)", 4: "(row ?)"}),
    ("(at (row truth yes) 0)", ["truth", "(row truth)", "truth", "whole"], {}),
    ("(at (as ? 1) 0)", ["?", "?", "whole", "whole"], {1: "(row ?)", 2: "?"}),
    ("(at (row ?) (as ? 1))", ["?", "(row ?)", "?", "whole"], {2: "whole", 3: "?"}),
    ("(size (row truth))", ["whole", "(row truth)"], {}),
    ("(size (as ? 1))", ["whole", "?", "whole"], {1: "(row ?)", 2: "?"}),
    ("(pair 1 yes)", ["(pair whole truth)", "whole", "truth"], {}),
    ("(fn x ? (pair x 1))", ["(to ? (pair ? whole))", "(pair ? whole)", "?", "whole"], {}),
    ("(one (pair 1 yes))", ["whole", "(pair whole truth)", "whole", "truth"], {}),
    ("(two (pair 1 yes))", ["truth", "(pair whole truth)", "whole", "truth"], {}),
    ("(one (as ? 1))", ["?", "?", "whole"], {1: "(pair ? ?)", 2: "?"}),
    ("(two (as ? 1))", ["?", "?", "whole"], {1: "(pair ? ?)", 2: "?"}),
    ("(as whole 1)", ["whole", "whole"], {}),
    ("(as ? 1)", ["?", "whole"], {1: "?"}),
    ("(as truth (as ? 1))", ["truth", "?", "whole"], {1: "truth", 2: "?"}),
    ("(as (to ? whole) (fn x whole (as ? x)))", ["(to ? whole)", "(to whole ?)", "?", "whole"],
     {1: "(to ? whole)", 3: "?"}),
]

BINDINGS = [
    ("(let x 1 (let x yes x))", ["truth", "whole", "truth", "truth", "truth"], {}),
    ("(let x 1 (let x (pair x x) x))", ["(pair whole whole)", "whole", "(pair whole whole)", "(pair whole whole)",
                                        "whole", "whole", "(pair whole whole)"], {}),
    ("(let x 1 (pair (let x yes x) x))", ["(pair truth whole)", "whole", "(pair truth whole)", "truth", "truth",
                                          "truth", "whole"], {}),
    ("(let x 1 (pair x (let x yes x)))", ["(pair whole truth)", "whole", "(pair whole truth)", "whole", "truth",
                                          "truth", "truth"], {}),
    ("(fn x whole (fn x truth x))", ["(to whole (to truth truth))", "(to truth truth)", "truth"], {}),
    ("(fn x truth (fn y whole x))", ["(to truth (to whole truth))", "(to whole truth)", "truth"], {}),
    ("(let x 1 (fn x truth x))", ["(to truth truth)", "whole", "(to truth truth)", "truth"], {}),
    ("(fn x truth (let x 1 x))", ["(to truth whole)", "whole", "whole", "whole"], {}),
    ("(self x x whole whole x)", ["(to whole whole)", "whole"], {}),
    ("(self f f whole truth (< f 1))", ["(to whole truth)", "truth", "whole", "whole"], {}),
    ("(self f x whole truth (let f x (< f 1)))", ["(to whole truth)", "truth", "whole", "truth", "whole", "whole"], {}),
    ("(fn f truth (self f x whole truth (call f x)))",
     ["(to truth (to whole truth))", "(to whole truth)", "truth", "(to whole truth)", "whole"], {}),
    ("(fn x truth (self f x whole truth (call f x)))",
     ["(to truth (to whole truth))", "(to whole truth)", "truth", "(to whole truth)", "whole"], {}),
    ("(pair (self f x ? ? x) (fn f whole f))", ["(pair (to ? ?) (to whole whole))", "(to ? ?)", "?",
                                                "(to whole whole)", "whole"], {}),
    ("(call (call (fn f (to whole truth) (fn y whole (call f y))) (fn z ? (< z 1))) 3)",
     ["truth", "(to whole truth)", "(to (to whole truth) (to whole truth))", "(to whole truth)", "truth",
      "(to whole truth)", "whole", "(to ? truth)", "truth", "?", "whole", "whole"],
     {7: "(to whole truth)", 9: "whole"}),
    ("(call (fn f (to whole ?) (call f (as ? 1))) (fn x whole yes))",
     ["?", "(to (to whole ?) ?)", "?", "(to whole ?)", "?", "whole", "(to whole truth)", "truth"],
     {4: "whole", 5: "?", 6: "(to whole ?)"}),
]

SEVENTEEN = ["whole", "truth", "given", "name", "fn", "self", "call", "let", "if", "do", "row", "at",
             "size", "pair", "one", "two", "as"]

TOLD = told_programs(150)


def words_in(tree):
    found = {tree[0]}
    for thing in tree[2:]:
        if isinstance(thing, tuple) and len(thing) > 1 and isinstance(thing[1], int):
            found |= words_in(thing)
    return found


def wanted_kinds(kinds, others):
    return {place: read_kind(others.get(place, text)) for place, text in enumerate(kinds)}


def at_places(found, move):
    return tuple([{move(place): kind for place, kind in told.items()} for told in found])


class LookedTest(unittest.TestCase):
    def test_the_programs_have_every_word(self):
        self.assertEqual(sorted(set().union(*[words_in(read(text)) for text, _, _ in PROGRAMS])), sorted(SEVENTEEN))

    def test_kinds_and_wanted_kinds(self):
        for text, kinds, others in PROGRAMS + BINDINGS:
            with self.subTest(text=text):
                tree = read(text)
                found = looked(tree)
                self.assertIs(type(found), tuple)
                self.assertEqual(found[0], wanted_kinds(kinds, {}))
                self.assertEqual(found[1], wanted_kinds(kinds, others))
                self.assertEqual(kind_of(tree), read_kind(kinds[0]))

    def test_both_dicts_have_just_the_places(self):
        for tree in [read(text) for text, _, _ in PROGRAMS + BINDINGS] + TOLD:
            for found in looked(tree):
                self.assertIs(type(found), dict)
                self.assertEqual(sorted(found), sorted(places(tree)))

    def test_places_that_do_not_rise(self):
        for text, kinds, others in PROGRAMS + BINDINGS:
            for move in (scattered, backwards):
                with self.subTest(text=text, move=move):
                    tree = moved(read(text), move)
                    wanted = at_places((wanted_kinds(kinds, {}), wanted_kinds(kinds, others)), move)
                    self.assertEqual(looked(tree), wanted)
                    self.assertEqual(kind_of(tree), read_kind(kinds[0]))

    def test_places_0_and_9999(self):
        tree = ("as", 9999, UNTOLD, ("truth", 0, True))
        self.assertEqual(looked(tree), ({9999: UNTOLD, 0: ("truth",)}, {9999: UNTOLD, 0: UNTOLD}))

    def test_rows_of_0_to_4_things(self):
        for many in range(5):
            found = looked(read("(row ?" + " 1" * many + ")"))
            self.assertEqual(found[0], {0: ("row", UNTOLD), **{place: ("whole",) for place in range(1, many + 1)}})
            self.assertEqual(found[1], {0: ("row", UNTOLD), **{place: UNTOLD for place in range(1, many + 1)}})

    def test_kinds_as_deep_as_may_be(self):
        for text, kind in [
            (f"(as {kind_text(4)} (as ? 1))", kind_text(4)),
            (f"(fn x {kind_text(3)} x)", f"(to {kind_text(3)} {kind_text(3)})"),
            (f"(self f x {kind_text(3)} whole (call f x))", f"(to {kind_text(3)} whole)"),
            (f"(self f x whole {kind_text(3)} (call f x))", f"(to whole {kind_text(3)})"),
            (f"(row {kind_text(3)})", kind_text(4)),
            (f"(pair (row {kind_text(2)}) 1)", f"(pair {kind_text(3)} whole)"),
            (f"(let x (as {kind_text(4)} (as ? 1)) x)", kind_text(4)),
            (f"(if yes (as {kind_text(4)} (as ? 1)) (as {kind_text(4)} (as ? 2)))", kind_text(4)),
        ]:
            with self.subTest(text=text):
                self.assertEqual(kind_of(read(text)), read_kind(kind))

    def test_dicts_told_are_new_each_time(self):
        for text, _, _ in PROGRAMS:
            tree = read(text)
            first = looked(tree)
            kept = (dict(first[0]), dict(first[1]))
            self.assertIsNot(first[0], first[1])
            for told in first:
                told.clear()
                told[5] = "more"
            self.assertEqual(looked(tree), kept)


class PromisesTest(unittest.TestCase):
    def test_wholly_told_programs_get_no_look(self):
        for tree in TOLD:
            kinds, wanted = looked(tree)
            self.assertEqual(kinds, wanted)
            self.assertNotIn("?", str(kinds))
            self.assertEqual(looks_of(tree), [])

    def assert_looser(self, tree, other):
        for told, looser_told in zip(looked(tree), looked(other)):
            self.assertEqual(sorted(told), sorted(looser_told))
            for place in told:
                self.assertTrue(looser(told[place], looser_told[place]), (tree, other, place))

    def test_taking_kinds_away_leaves_a_program_taken(self):
        for number, tree in enumerate(TOLD):
            other = looser_program(tree, number)
            more = looser_program(other, number + 1)
            self.assert_looser(tree, other)
            self.assert_looser(other, more)
            self.assert_looser(more, changed_kinds(tree, lambda kind: UNTOLD))

    def test_each_written_kind_taken_away_by_itself(self):
        for tree in [read(text) for text, _, _ in PROGRAMS + BINDINGS] + TOLD[:50]:
            counted = []
            changed_kinds(tree, lambda kind: counted.append(kind) or kind)
            for number in range(len(counted)):
                new = iter(counted[:number] + [UNTOLD] + counted[number + 1:])
                self.assert_looser(tree, changed_kinds(tree, lambda kind: next(new)))

    def test_the_same_answer_whatever_was_asked_ahead(self):
        first = [looked(tree) for tree in TOLD[:40]]
        for number, tree in enumerate(TOLD[:40]):
            try:
                looked(other_program(tree, number))
            except ValueError:
                pass
            self.assertEqual(looked(tree), first[number])


if __name__ == "__main__":
    unittest.main()
