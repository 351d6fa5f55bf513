"""Texts in, texts out."""

import unittest

from blamewise.desk import eased, plainly, told
from blamewise.errors import NoText
from blamewise.spots import spots
from blamewise.texts import read, show
from tests.many_kinds import UNTOLD
from tests.many_programs import changed_kinds, told_programs
from tests.samples import kind_text, nest_text, nodes_text

GREAT = "9" * 40

NO_PROGRAMS = ["", " ", "(", ")", "()", "(+ 1)", "(+ 1 2 3)", "1 2", "(as whole)", "(as 1 whole)", "01", "-0", "X",
               "whole?", "(fn yes ? 1)", "1" * 41, "(given 8)", "(row ? 1 2 3 4 5)", f"(as {kind_text(7)} 1)",
               nest_text(9), nodes_text(121), "7" + " " * 2000, "(" * 21, "(look ? whole 1)", "7\n"]

# (text, what is told, what is told plainly where that is another thing)
TOLD = [
    ("x", "unknown 0", None),
    ("(+ yes (+ 1 y))", "unknown 4", None),
    ("(let x x 1)", "unknown 1", None),
    (f"(as {kind_text(5)} x)", "unknown 1", None),
    (f"(as {kind_text(5)} 1)", "deep 0", "done 1"),
    (f"(pair 1 (row {kind_text(4)}))", "deep 2", "done <1 []>"),
    # Kinds that part, with a way of no steps and of several.
    ("(+ yes 1)", "refused 1 truth by 0 whole at -", "wrong 1"),
    ("(call 1 2)", "refused 1 whole by 0 (to ? ?) at -", "wrong 1"),
    ("(if yes 1 no)", "refused 3 truth by 2 whole at -", "done 1"),
    ("(as (row truth) (row whole 1))", "refused 1 (row whole) by 0 (row truth) at item", "done [1]"),
    ("(as (to whole (row truth)) (fn x whole (row whole)))",
     "refused 1 (to whole (row whole)) by 0 (to whole (row truth)) at res.item", "done fn"),
    ("(if yes (fn x (to whole truth) 1) (fn x (to truth truth) 1))",
     "refused 4 (to (to truth truth) whole) by 2 (to (to whole truth) whole) at arg.arg", "done fn"),
    ("(as (pair ? (pair truth ?)) (pair 1 (pair 2 3)))",
     "refused 1 (pair whole (pair whole whole)) by 0 (pair ? (pair truth ?)) at two.one", "done <1 <2 3>>"),
    # Done.
    ("7", "done 7", None),
    ("-7", "done -7", None),
    ("(< 1 2)", "done yes", None),
    ("(as ? (= 1 2))", "done no", None),
    ("(fn x whole x)", "done fn", None),
    ("(row whole)", "done []", None),
    ("(row ? 1 (row ? yes (row ? 2)))", "done [1 [yes [..]]]", None),
    ("(pair 1 (pair yes (pair 2 3)))", "done <1 <yes <.. ..>>>", None),
    ("(given 0)", "done 5", None),
    ("(+ (given 1) (given 2))", "done -6", None),
    # Spent.
    ("(call (self f x ? ? (call f x)) 1)", "spent", None),
    ("(call (self f x whole whole (+ 1 (call f x))) 1)", "spent", None),
    # Each fault.
    (f"(pair 1 (+ {GREAT} 1))", "fault 2 great", None),
    (f"(* {GREAT} (as ? -{GREAT}))", "fault 0 great", None),
    ("(at (row whole 1) 1)", "fault 0 none", None),
    ("(pair 1 (at (as ? (row whole 1)) -1))", "fault 2 none", None),
    # Blames with ways of no steps and of several, of either side.
    ("(as truth (as ? 1))", "blame 1 in - truth from 2 in - whole", "done 1"),
    ("(+ 1 (as ? yes))", "blame 2 in - whole from 3 in - truth", "wrong 2"),
    ("(call (as ? (row ? 1)) 2)", "blame 1 in - (to ? ?) from 2 in - (row ?)", "wrong 1"),
    ("(one (as ? (fn x whole x)))", "blame 1 in - (pair ? ?) from 2 in - (to ? ?)", "wrong 1"),
    ("(call (as (to truth whole) (as ? (fn x whole 1))) yes)", "blame 3 out arg whole from 2 out arg truth", "done 1"),
    ("(call (as (to whole truth) (as ? (fn x whole x))) 4)", "blame 2 in res truth from 3 in res whole", "done 4"),
    ("(call (as (to whole truth) (fn x ? x)) 4)", "blame 2 in res truth from 2 out arg whole", "done 4"),
    ("(call (as (to (to whole truth) whole) (as ? (fn g (to whole whole) (call g 1)))) (fn y whole (< y 1)))",
     "blame 3 out arg.res whole from 2 out arg.res truth", "done no"),
    ("(call (as (to (to truth whole) whole) (as ? (fn g (to whole whole) (call g 1)))) (fn y truth 1))",
     "blame 2 in arg.arg truth from 3 in arg.arg whole", "done 1"),
    ("(as (row (row truth)) (as ? (row (row whole) (row whole 1))))",
     "blame 1 in item.item truth from 2 in item.item whole", "done [[1]]"),
    ("(as (pair ? (pair truth ?)) (as ? (pair 1 (pair 2 3))))",
     "blame 1 in two.one truth from 2 in two.one whole", "done <1 <2 3>>"),
    # A program that the looker refuses runs plainly, and may end in any way.
    ("(if yes (at (row whole) 0) no)", "refused 5 truth by 2 whole at -", "fault 2 none"),
    ("(call (self f x whole truth (call f yes)) 1)", "refused 4 truth by 2 whole at -", "spent"),
    ("(size (as truth 3))", "refused 2 whole by 1 truth at -", "wrong 1"),
]


class ToldTest(unittest.TestCase):
    def test_each_sort_of_answer(self):
        for text, first, second in TOLD:
            with self.subTest(text=text):
                self.assertEqual(told(text, [5, -6], 12), first)
                self.assertEqual(plainly(text, [5, -6], 12), first if second is None else second)

    def test_no_program(self):
        for text in NO_PROGRAMS:
            with self.subTest(text=text[:60]):
                self.assertEqual(told(text, [], 12), "no program")
                self.assertEqual(plainly(text, [], 12), "no program")

    def test_blanks_are_not_looked_at(self):
        self.assertEqual(told("  ( + (as ?  1)2 ) ", [], 0), "done 3")
        self.assertEqual(plainly("(+(as ? 1)(as ? 2))", [], 0), "done 3")

    def test_bounds_of_calls(self):
        text = "(call (self f x ? ? (if (< x 1) 0 (call f (- x 1)))) 3)"
        for calls in range(13):
            for one in (told, plainly):
                self.assertEqual(one(text, [], calls), "done 0" if calls >= 4 else "spent")

    def test_numbers_handed_in_stay(self):
        numbers = [4, 5]
        for one in (told, plainly):
            self.assertEqual(one("(- (given 0) (given 1))", numbers, 0), "done -1")
            self.assertEqual(numbers, [4, 5])

    def test_whatever_was_asked_ahead(self):
        for text, first, second in reversed(TOLD):
            self.assertEqual(told("(", [], 12), "no program")
            self.assertEqual(told(text, [5, -6], 12), first)
            self.assertEqual(plainly(text, [5, -6], 12), first if second is None else second)


class EasedTest(unittest.TestCase):
    def test_by_hand(self):
        for text, bits, wanted in [
            ("7", 0, "7"),
            ("7", 5, "7"),
            ("(as whole x)", 0, "(as whole x)"),
            ("(as whole x)", 1, "(as ? x)"),
            ("(as whole x)", 2, "(as whole x)"),
            ("  (  as(to whole   truth)( fn x(row ?) x ) )  ", 0, "(as (to whole truth) (fn x (row ?) x))"),
            ("  (  as(to whole   truth)( fn x(row ?) x ) )  ", 4, "(as (to whole ?) (fn x (row ?) x))"),
            ("(as (to whole truth)(fn x (row ?)x))", 8, "(as (to whole truth) (fn x ? x))"),
            ("(as (to whole truth)(fn x (row ?)x))", 9, "(as ? (fn x ? x))"),
            ("(as (to whole truth)(fn x (row ?)x))", 15, "(as ? (fn x ? x))"),
            ("(as (to whole truth)(fn x (row ?)x))", 16, "(as (to whole truth) (fn x (row ?) x))"),
            ("(as (to whole truth)(fn x (row ?)x))", 10 ** 400 - 1, "(as ? (fn x ? x))"),
            ("(self f x whole (row truth) (+ x y))", 2, "(self f x whole ? (+ x y))"),
            # Neither free names nor kinds that part matter.
            ("(+ yes (as (row whole) z))", 2, "(+ yes (as (row ?) z))"),
            (f"(as {kind_text(6)} 1)", 32, f"(as {kind_text(6).replace('whole', '?')} 1)"),
        ]:
            with self.subTest(text=text, bits=bits):
                self.assertEqual(eased(text, bits), wanted)

    def test_no_program(self):
        for text in NO_PROGRAMS:
            with self.subTest(text=text[:60]), self.assertRaises(NoText):
                eased(text, 0)

    def test_no_bits_and_all_bits(self):
        for tree in told_programs(60, seed=71):
            text = show(tree)
            everything = 2 ** spots(tree) - 1
            loosest = show(changed_kinds(tree, lambda kind: UNTOLD))
            self.assertEqual(eased(text, 0), text)
            self.assertEqual(eased(text.replace(" ", "   "), 0), text)
            self.assertEqual(eased(text, everything + 1), text)
            self.assertEqual(eased(text, everything), loosest)
            self.assertEqual(eased(eased(text, everything), everything), loosest)
            self.assertEqual(read(eased(text, 5)), read(eased(eased(text, 5), 0)))


if __name__ == "__main__":
    unittest.main()
