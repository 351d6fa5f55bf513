"""The texts of the values to which runs come."""

import unittest

from blamewise.plain import plain
from blamewise.texts import read
from tests.all_runs import RUNS
from tests.many_programs import changed_kinds
from tests.many_kinds import UNTOLD

TEXTS = [
    ("0", "0"),
    ("12", "12"),
    ("-12", "-12"),
    ("9" * 40, "9" * 40),
    ("-" + "9" * 40, "-" + "9" * 40),
    ("yes", "yes"),
    ("no", "no"),
    ("(fn x whole x)", "fn"),
    ("(self f x whole whole x)", "fn"),
    ("(row whole)", "[]"),
    ("(row whole 1)", "[1]"),
    ("(row whole 1 2)", "[1 2]"),
    ("(row whole 1 -2 3)", "[1 -2 3]"),
    ("(row whole 1 2 3 4)", "[1 2 3 4]"),
    ("(row truth yes no)", "[yes no]"),
    ("(row (to whole whole) (fn x whole x))", "[fn]"),
    ("(pair 1 2)", "<1 2>"),
    ("(pair yes (fn x whole x))", "<yes fn>"),
    ("(pair -1 (pair 2 3))", "<-1 <2 3>>"),
    ("(pair (pair 1 2) 3)", "<<1 2> 3>"),
    ("(row (row whole) (row whole) (row whole 1) (row whole 2 3))", "[[] [1] [2 3]]"),
    ("(row (pair whole truth) (pair 1 yes) (pair 2 no))", "[<1 yes> <2 no>]"),
    ("(pair (row whole 1 2) (row truth))", "<[1 2] []>"),
    # Level 3 is shown, level 4 isn't.
    ("(row (pair whole (row whole)) (pair 1 (row whole 2 3)))", "[<1 [.. ..]>]"),
    ("(row (pair whole (row whole)) (pair 1 (row whole)) (pair 2 (row whole 3)))", "[<1 []> <2 [..]>]"),
    ("(pair (row (pair whole truth) (pair 1 yes)) 2)", "<[<.. ..>] 2>"),
    ("(pair (pair (pair 1 2) 3) 4)", "<<<.. ..> 3> 4>"),
    ("(pair 1 (pair 2 (pair 3 4)))", "<1 <2 <.. ..>>>"),
    ("(pair 1 (pair 2 (row whole)))", "<1 <2 []>>"),
    ("(pair 1 (pair 2 (fn x whole x)))", "<1 <2 fn>>"),
    ("(pair 1 (pair 2 (as ? (pair 3 (fn x whole x)))))", "<1 <2 <.. ..>>>"),
    ("(row (row (row whole)) (row (row whole) (row whole 1 2 3 4)))", "[[[.. .. .. ..]]]"),
    ("(row (row (row whole)) (row (row whole) (row whole)))", "[[[]]]"),
    ("(row (row (row whole)) (row (row whole)) (row (row whole) (row whole 1) (row whole)))", "[[] [[..] []]]"),
    ("(row (row (row ?)) (row (row ?) (row ? (row (row whole) (row whole)))))", "[[[..]]]"),
    ("(row (row (row ?)) (row (row ?) (row ? (row (row whole)))))", "[[[..]]]"),
    ("(row (row (row whole)) (row (row whole)))", "[[]]"),
]

# Values with tags and guards beside them look the same as others.
TAGGED = [
    ("(as ? 7)", "7"),
    ("(as ? yes)", "yes"),
    ("(as ? (fn x whole x))", "fn"),
    ("(as ? (row whole 1))", "[1]"),
    ("(as ? (pair 1 no))", "<1 no>"),
    ("(row ? 1 yes (row ? 2))", "[1 yes [2]]"),
    ("(pair (as ? 1) (as ? (as whole (as ? 2))))", "<1 2>"),
    ("(as (row whole) (row ? 1 2))", "[1 2]"),
    ("(as (pair whole ?) (as ? (pair 1 2)))", "<1 2>"),
    ("(as ? (as (row (row ?)) (as ? (row (row whole) (row whole 1) (row whole)))))", "[[1] []]"),
    ("(as (to ? whole) (fn x whole (as ? x)))", "fn"),
    ("(row ? (row ? (row ? 1 (row ?))))", "[[[.. ..]]]"),
]


class TextTest(unittest.TestCase):
    def assert_done(self, tree, text):
        self.assertEqual(plain(tree, [], 0), ("done", text))
        for one_run in RUNS:
            self.assertEqual(one_run(tree, [], 0), ("done", text), one_run)

    def test_texts_of_values(self):
        for program, text in TEXTS + TAGGED:
            with self.subTest(program=program):
                self.assert_done(read(program), text)

    def test_the_same_with_all_kinds_untold(self):
        for program, text in TEXTS + TAGGED:
            with self.subTest(program=program):
                self.assert_done(changed_kinds(read(program), lambda kind: UNTOLD), text)

    def test_a_thing_as_often_as_it_stands_there(self):
        program = "(let a (row ? 1 2 3 4) (let b (row ? a a a a) (row ? b b b b)))"
        inner = "[" + " ".join(["[.. .. .. ..]"] * 4) + "]"
        self.assert_done(read(program), "[" + " ".join([inner] * 4) + "]")


class ReadTest(unittest.TestCase):
    """Looks of things are met when these are read for the text, in their order, and not beyond level 3."""

    def assert_blamed(self, program, place, origin):
        for one_run in RUNS:
            answer = one_run(read(program), [], 0)
            self.assertEqual((answer[0], answer[1][0], answer[3][0]), ("blame", place, origin), one_run)

    def test_the_first_thing_that_fails(self):
        self.assert_blamed("(as (row truth) (row ? yes 1 2))", 1, 3)
        self.assert_blamed("(as (row truth) (row ? 1 yes 2))", 1, 2)
        self.assert_blamed("(as (pair whole truth) (pair (as ? 1) (as ? 2)))", 1, 5)
        self.assert_blamed("(as (pair truth truth) (pair (as ? 1) (as ? 2)))", 1, 3)

    def test_each_shown_wholly_before_the_next_one(self):
        self.assert_blamed("(as (pair (row truth) truth) (pair (row ? 1) (as ? 2)))", 1, 3)
        self.assert_blamed("(pair (as (row truth) (row ? 1)) (as (row truth) (row ? 2)))", 2, 3)
        self.assert_blamed("(pair (as (row truth) (row ? yes)) (as (row truth) (row ? 2)))", 5, 6)

    def test_level_3_is_read_and_level_4_is_not(self):
        self.assert_blamed("(row ? (as (row truth) (row ? 1)))", 2, 3)
        for program, text in [
            ("(row ? (row ? (as (row truth) (row ? 1))))", "[[[..]]]"),
            ("(pair 1 (pair 2 (as (pair truth truth) (pair (as ? 1) (as ? 2)))))", "<1 <2 <.. ..>>>"),
            ("(as (row (row (row truth))) (row (row (row ?)) (row (row ?) (row ? 1))))", "[[[..]]]"),
        ]:
            for one_run in RUNS:
                self.assertEqual(one_run(read(program), [], 0), ("done", text), one_run)
        self.assert_blamed("(as (row (row truth)) (row (row ?) (row ? 1)))", 1, 3)

    def test_no_call_is_done_for_the_text(self):
        program = "(as (to whole truth) (as ? (fn x whole x)))"
        for one_run in RUNS:
            self.assertEqual(one_run(read(program), [], 0), ("done", "fn"))


if __name__ == "__main__":
    unittest.main()
