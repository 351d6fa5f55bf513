"""Plain runs: what each word does, the faults, the calls, and values that a node can't use."""

import unittest

from blamewise.errors import NoName, Parted, TooDeep
from blamewise.looker import looked
from blamewise.plain import plain
from blamewise.texts import read
from tests.many_programs import backwards, changed_kinds, moved, scattered, told_programs
from tests.many_kinds import UNTOLD
from tests.samples import kind_text

GREAT = "9" * 40
NEARLY = "1" + "0" * 39

# (program, the text of its value), with the numbers 5, -6 and 7 handed in.
DONE = [
    ("7", "7"),
    ("-7", "-7"),
    ("0", "0"),
    (GREAT, GREAT),
    ("-" + GREAT, "-" + GREAT),
    ("yes", "yes"),
    ("no", "no"),
    ("(given 0)", "5"),
    ("(given 1)", "-6"),
    ("(given 2)", "7"),
    ("(given 3)", "0"),
    ("(given 7)", "0"),
    ("(let x 3 x)", "3"),
    ("(let x 3 (let x 4 x))", "4"),
    ("(let x 3 (let x (+ x 1) (* x x)))", "16"),
    ("(let x 3 (+ (let x 4 x) x))", "7"),
    ("(let x 3 (- x (let x 4 x)))", "-1"),
    ("(fn x ? x)", "fn"),
    ("(self f x ? ? x)", "fn"),
    ("(fn x ? (+ yes no))", "fn"),
    ("(call (fn x ? (+ x 1)) 3)", "4"),
    ("(call (self f x ? ? (* x 3)) 3)", "9"),
    ("(call (self f x ? ? f) 3)", "fn"),
    ("(call (self f x ? ? (if (< x 1) 0 (+ x (call f (- x 1))))) 4)", "10"),
    ("(call (fn f ? (call f 3)) (fn x ? (+ x x)))", "6"),
    ("(call (call (fn x ? (fn y ? (- x y))) 7) 2)", "5"),
    ("(call (call (fn x ? (fn x ? x)) 7) 2)", "2"),
    ("(if yes 1 2)", "1"),
    ("(if no 1 2)", "2"),
    ("(if (< 1 2) (+ 1 1) (+ 2 2))", "2"),
    ("(+ 3 4)", "7"),
    ("(+ 3 -4)", "-1"),
    ("(- 3 4)", "-1"),
    ("(- 4 3)", "1"),
    ("(* 3 -4)", "-12"),
    ("(* 0 -4)", "0"),
    ("(< 3 4)", "yes"),
    ("(< 4 3)", "no"),
    ("(< 3 3)", "no"),
    ("(< -4 3)", "yes"),
    ("(= 3 3)", "yes"),
    ("(= 3 4)", "no"),
    ("(= -3 3)", "no"),
    ("(row ?)", "[]"),
    ("(row whole 1 2)", "[1 2]"),
    ("(row truth 1 yes (fn x ? x))", "[1 yes fn]"),
    ("(at (row ? 4 5 6) 0)", "4"),
    ("(at (row ? 4 5 6) 2)", "6"),
    ("(at (row ? 1 2 3 4) (- 4 1))", "4"),
    ("(size (row ?))", "0"),
    ("(size (row ? 4 yes 6))", "3"),
    ("(size (row ? 1 2 3 4))", "4"),
    ("(pair 1 yes)", "<1 yes>"),
    ("(one (pair 1 yes))", "1"),
    ("(two (pair 1 yes))", "yes"),
    ("(as ? 3)", "3"),
    ("(as truth 3)", "3"),
    ("(as (to whole whole) (row ? 3))", "[3]"),
]

# Functions keep the names as they stood when they were made; the inner binding counts.
KEPT = [
    ("(let x 1 (let f (fn y ? x) (let x 2 (call f 0))))", "1"),
    ("(let x 1 (let f (fn y ? (+ x y)) (let x 20 (+ x (call f 300)))))", "321"),
    ("(let x 1 (let f (self f y ? ? x) (let x 2 (call f 0))))", "1"),
    ("(let f (fn x ? (fn y ? x)) (let g (call f 1) (let h (call f 2) (pair (call g 0) (call h 0)))))", "<1 2>"),
    ("(let y 9 (call (fn f ? (let y 3 (call f y))) (fn x ? (- y x))))", "6"),
    ("(call (self x x ? ? x) 5)", "5"),
    ("(call (self f f ? ? (+ f 1)) 5)", "6"),
    ("(let f 3 (call (self f x ? ? (if (< x 1) 8 (call f (- x 1)))) 2))", "8"),
    ("(let f (self f x ? ? (if (< x 1) 8 (call f (- x 1)))) (let g f (let f 3 (call g 2))))", "8"),
    ("(let x 3 (call (self f x ? ? x) 4))", "4"),
    ("(let x 3 (+ (call (fn x ? x) 4) x))", "7"),
    ("(call (self f x ? ? (let f 2 f)) 4)", "2"),
    ("(call (fn x ? (let y x (let x 1 y))) 4)", "4"),
]

# (program, the place of the fault)
TOO_GREAT = [
    (f"(+ {GREAT} 1)", 0),
    (f"(+ 1 {GREAT})", 0),
    (f"(+ -{GREAT} -1)", 0),
    (f"(- {GREAT} -1)", 0),
    (f"(- -{GREAT} 1)", 0),
    (f"(* {NEARLY} 10)", 0),
    (f"(* {NEARLY} -10)", 0),
    (f"(* {GREAT} {GREAT})", 0),
    (f"(* -{GREAT} {GREAT})", 0),
    (f"(let x {NEARLY} (pair x (* x 10)))", 4),
    (f"(- (+ {GREAT} 1) 1)", 1),
    (f"(call (fn x ? (+ x 1)) {GREAT})", 2),
    (f"(+ 1 (+ 1 (+ (- {GREAT} 1) 1)))", 2),
]
GREAT_ENOUGH = [
    (f"(+ {GREAT} 0)", GREAT),
    (f"(- 0 {GREAT})", "-" + GREAT),
    (f"(+ -{GREAT} 1)", "-" + "9" * 39 + "8"),
    (f"(- {GREAT} 1)", "9" * 39 + "8"),
    (f"(+ (- {GREAT} 1) 1)", GREAT),
    (f"(- (- 1 {GREAT}) 1)", "-" + GREAT),
    (f"(* {NEARLY} 9)", "9" + "0" * 39),
    (f"(* -9 {NEARLY})", "-9" + "0" * 39),
    (f"(* 3 {'3' * 40})", GREAT),
    (f"(* -1 {GREAT})", "-" + GREAT),
]

NOTHING_THERE = [
    ("(at (row ?) 0)", 0),
    ("(at (row ? 1) 1)", 0),
    ("(at (row ? 1) -1)", 0),
    ("(at (row ? 1 2 3 4) 4)", 0),
    ("(at (row ? 1 2 3 4) -1)", 0),
    ("(at (row ? 1 2 3 4) -4)", 0),
    (f"(at (row ? 1) {GREAT})", 0),
    (f"(at (row ? 1) -{GREAT})", 0),
    ("(let x (row ? 1) (pair (at x 0) (at x 1)))", 7),
    ("(+ (at (row ? 1) 2) yes)", 1),
]

# (program, the place of the part whose value its node can't use)
WRONG = [
    ("(call 1 2)", 1),
    ("(call yes 2)", 1),
    ("(call (row ?) 2)", 1),
    ("(call (pair (fn x ? x) 1) 2)", 1),
    ("(+ yes 1)", 1),
    ("(+ 1 yes)", 2),
    ("(- yes 1)", 1),
    ("(- 1 no)", 2),
    ("(* (row ? 1) 1)", 1),
    ("(* 1 (fn x ? x))", 2),
    ("(< yes 1)", 1),
    ("(< 1 (pair 1 1))", 2),
    ("(= yes yes)", 1),
    ("(= 1 yes)", 2),
    ("(if 1 2 3)", 1),
    ("(if 0 2 3)", 1),
    ("(if (row ?) 2 3)", 1),
    ("(if (fn x ? x) 2 3)", 1),
    ("(at 1 0)", 1),
    ("(at (pair 1 2) 0)", 1),
    ("(at (fn x ? x) 0)", 1),
    ("(at (row ? 1) yes)", 3),
    ("(at (row ? 1) no)", 3),
    ("(at (row ?) (row ?))", 2),
    ("(size 1)", 1),
    ("(size (pair 1 2))", 1),
    ("(size yes)", 1),
    ("(one 1)", 1),
    ("(one (row ? 1 2))", 1),
    ("(two (row ? 1 2))", 1),
    ("(two (fn x ? x))", 1),
    ("(let x yes (let y 1 (+ y x)))", 6),
    ("(call (fn x ? (size x)) 1)", 3),
    ("(+ 1 (as whole yes))", 2),
    ("(as whole (+ 1 yes))", 3),
]

# Nothing behind a value that can't be used is gone through: each of the parts behind would end the run.
AS_SOON_AS_THERE = [
    ("(call 1 (+ yes yes))", 1),
    ("(call 1 (at (row ?) 0))", 1),
    ("(call 1 (call (self f x ? ? (call f x)) 1))", 1),
    ("(+ yes (at (row ?) 0))", 1),
    ("(< yes (size 1))", 1),
    ("(at 1 (at (row ?) 0))", 1),
    ("(at yes (size 1))", 1),
    ("(if 1 (at (row ?) 0) (at (row ?) 0))", 1),
    ("(row ? (size 1) (at (row ?) 0))", 2),
    ("(pair (one 1) (at (row ?) 0))", 2),
    ("(let x (+ 1 yes) (at (row ?) 0))", 3),
    ("(call (fn x ? (at (row ?) 0)) (+ 1 yes))", 7),
    (f"(+ (+ {GREAT} yes) (+ {GREAT} 1))", 3),
]

# (program, how many calls it needs)
CALLS = [
    ("7", 0),
    ("(fn x ? (call x x))", 0),
    ("(call (fn x ? x) 1)", 1),
    ("(call (self f x ? ? (if (< x 1) 0 (call f (- x 1)))) 3)", 4),
    ("(call (self f x ? ? (if (< x 1) 0 (+ 1 (call f (- x 1))))) 11)", 12),
    ("(let f (fn x ? x) (call f (call f (call f 1))))", 3),
    ("(let f (fn x ? x) (row ? (call f 1) (call f 2) (call f 3) (call f 4)))", 4),
    ("(if yes 1 (call (fn x ? x) 1))", 0),
    ("(at (row ?) (call (fn x ? x) 1))", 1),
    ("(size (call (fn x ? x) 1))", 1),
    ("(call (fn f ? (call f (call f 1))) (fn x ? x))", 3),
]


class WordsTest(unittest.TestCase):
    def assert_answers(self, programs, answer_of):
        for text, told in programs:
            for move in (int, scattered, backwards):
                with self.subTest(text=text, move=move):
                    tree = moved(read(text), move)
                    self.assertEqual(plain(tree, [5, -6, 7], 12), answer_of(told, move))

    def test_what_each_word_comes_to(self):
        self.assert_answers(DONE, lambda told, move: ("done", told))

    def test_names_as_they_stood(self):
        self.assert_answers(KEPT, lambda told, move: ("done", told))

    def test_numbers_of_40_figures_and_of_41(self):
        self.assert_answers(GREAT_ENOUGH, lambda told, move: ("done", told))
        self.assert_answers(TOO_GREAT, lambda told, move: ("fault", move(told), "great"))

    def test_nothing_at_that_number(self):
        self.assert_answers(NOTHING_THERE, lambda told, move: ("fault", move(told), "none"))

    def test_values_that_a_node_cannot_use(self):
        self.assert_answers(WRONG, lambda told, move: ("wrong", move(told)))
        self.assert_answers(AS_SOON_AS_THERE, lambda told, move: ("wrong", move(told)))

    def test_comparisons_of_great_numbers_are_no_fault(self):
        self.assertEqual(plain(read(f"(< -{GREAT} {GREAT})"), [], 0), ("done", "yes"))
        self.assertEqual(plain(read(f"(= {GREAT} {GREAT})"), [], 0), ("done", "yes"))


class GivenTest(unittest.TestCase):
    def test_each_number_handed_in(self):
        numbers = [10, 11, -12, int(GREAT), -int(GREAT), 0, 16, 17]
        for many in range(9):
            for k in range(8):
                handed = numbers[:many]
                wanted = str(numbers[k]) if k < many else "0"
                self.assertEqual(plain(read(f"(given {k})"), handed, 0), ("done", wanted))
                self.assertEqual(handed, numbers[:many])

    def test_numbers_handed_in_are_reckoned_with(self):
        self.assertEqual(plain(read("(- (given 1) (given 0))"), [3, 10], 0), ("done", "7"))
        self.assertEqual(plain(read("(+ (given 0) 1)"), [int(GREAT)], 0), ("fault", 0, "great"))
        self.assertEqual(plain(read("(at (row ? 4 5) (given 0))"), [1], 0), ("done", "5"))


class OrderTest(unittest.TestCase):
    """The parts from left to right: of two parts that would both end the run, the first one does."""

    def test_the_first_of_two_faults(self):
        for text, place in [
            ("(+ (at (row ?) 0) (at (row ?) 1))", 1),
            ("(call (at (row ?) 0) (at (row ?) 1))", 1),
            ("(let x (at (row ?) 0) (at (row ?) 1))", 1),
            ("(row ? 1 (at (row ?) 0) (at (row ?) 1))", 2),
            ("(at (at (row ?) 0) (at (row ?) 1))", 1),
            ("(pair (at (row ?) 0) (at (row ?) 1))", 1),
            ("(if (at (row ?) 0) (at (row ?) 1) (at (row ?) 2))", 1),
            ("(if yes (at (row ?) 0) (at (row ?) 1))", 2),
            ("(if no (at (row ?) 0) (at (row ?) 1))", 5),
            ("(call (fn x ? (at (row ?) 0)) (at (row ?) 1))", 5),
            ("(+ (call (fn x ? (at (row ?) 0)) 1) (at (row ?) 1))", 3),
            ("(at (row ? (at (row ?) 0)) (at (row ?) 1))", 2),
        ]:
            with self.subTest(text=text):
                self.assertEqual(plain(read(text), [], 12), ("fault", place, "none"))

    def test_only_the_part_that_the_truth_tells(self):
        self.assertEqual(plain(read("(if yes 1 (size 2))"), [], 0), ("done", "1"))
        self.assertEqual(plain(read("(if no (size 2) 1)"), [], 0), ("done", "1"))


class CallsTest(unittest.TestCase):
    def test_as_many_as_needed_and_one_fewer(self):
        for text, needed in CALLS:
            tree = read(text)
            self.assertNotEqual(plain(tree, [], needed), ("spent",), text)
            for calls in range(needed, 13):
                self.assertEqual(plain(tree, [], calls), plain(tree, [], 12), text)
            for calls in range(needed):
                self.assertEqual(plain(tree, [], calls), ("spent",), text)

    def test_calls_without_end(self):
        for calls in range(13):
            self.assertEqual(plain(read("(call (self f x ? ? (call f x)) 1)"), [], calls), ("spent",))
            self.assertEqual(plain(read("(let w (fn x ? (call x x)) (call w w))"), [], calls), ("spent",))

    def test_no_call_left_is_found_when_function_and_argument_are_there(self):
        self.assertEqual(plain(read("(call 1 2)"), [], 0), ("wrong", 1))
        self.assertEqual(plain(read("(call (fn x ? x) (size 1))"), [], 0), ("wrong", 4))
        self.assertEqual(plain(read("(call (fn x ? x) (at (row ?) 0))"), [], 0), ("fault", 3, "none"))
        self.assertEqual(plain(read("(call (fn x ? (size x)) 1)"), [], 0), ("spent",))

    def test_a_deep_run(self):
        inner = "(+ 1 (+ 1 (+ 1 (call f x))))"
        self.assertEqual(plain(read(f"(call (self f x ? ? (let y x {inner})) 1)"), [], 12), ("spent",))


class RefusedTest(unittest.TestCase):
    def test_free_names(self):
        for text, place in [("x", 0), ("(+ 1 (+ y x))", 3), ("(let x x 1)", 1), ("(fn x ? y)", 1),
                            ("(if yes 1 z)", 3), ("(at (row ?) x)", 2), ("(call 1 x)", 2)]:
            with self.assertRaises(NoName) as caught:
                plain(read(text), [], 12)
            self.assertEqual(caught.exception.place, place)

    def test_programs_that_the_looker_refuses_run_all_the_same(self):
        for text, refusal, answer in [
            ("(if yes 1 no)", Parted, ("done", "1")),
            ("(as truth 1)", Parted, ("done", "1")),
            ("(row truth 1)", Parted, ("done", "[1]")),
            ("(call (fn x truth (+ x 1)) 2)", Parted, ("done", "3")),
            ("(call (self f x truth truth (+ x 1)) 2)", Parted, ("done", "3")),
            ("(+ yes 1)", Parted, ("wrong", 1)),
            (f"(as {kind_text(5)} 1)", TooDeep, ("done", "1")),
            (f"(call (fn x {kind_text(6)} x) 3)", TooDeep, ("done", "3")),
        ]:
            tree = read(text)
            with self.assertRaises(refusal):
                looked(tree)
            self.assertEqual(plain(tree, [], 12), answer)

    def test_written_kinds_are_not_looked_at(self):
        kinds = [UNTOLD, ("whole",), ("row", ("truth",)), ("to", UNTOLD, ("whole",))]
        for tree in told_programs(100, seed=21):
            for kind in kinds:
                self.assertEqual(plain(changed_kinds(tree, lambda old: kind), [3, 1], 12), plain(tree, [3, 1], 12))

    def test_the_same_answer_whatever_was_asked_ahead(self):
        trees = [read(text) for text, _ in DONE + KEPT + WRONG + TOO_GREAT]
        numbers = [5, -6, 7]
        first = [plain(tree, numbers, 5) for tree in trees]
        with self.assertRaises(NoName):
            plain(read("x"), numbers, 5)
        self.assertEqual([plain(tree, numbers, 5) for tree in reversed(trees)], first[::-1])
        self.assertEqual(numbers, [5, -6, 7])


if __name__ == "__main__":
    unittest.main()
