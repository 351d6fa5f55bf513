"""Runs with looks, by hand: what is found, where, and who is to blame. Every run is asked each time."""

import itertools
import unittest

from blamewise.errors import NoName, Parted, TooDeep
from blamewise.machine import by_machine
from blamewise.runner import run
from blamewise.texts import read
from tests.all_runs import RUNS, the_answer
from tests.many_kinds import PAIR, ROW, TO, TRUTH, WHOLE
from tests.many_programs import backwards, moved, scattered
from tests.samples import kind_text

# (kinds of this head, a node of it, its ground, the text of its value)
HEADS = [
    (["whole"], "7", WHOLE, "7"),
    (["truth"], "yes", TRUTH, "yes"),
    (["(to ? ?)", "(to whole truth)"], "(fn x whole x)", TO, "fn"),
    (["(row ?)", "(row whole)"], "(row whole 3)", ROW, "[3]"),
    (["(pair ? ?)", "(pair whole truth)"], "(pair 3 yes)", PAIR, "<3 yes>"),
]


def blame(label, wanted, origin, found):
    """The answer; labels are written as a place and a side with its way, "in" or "out arg res"."""
    return ("blame", label_of(*label), wanted, label_of(*origin), found)


def label_of(place, text):
    words = text.split(" ")
    return (place, words[0], tuple(words[1:]))


def moved_answer(answer, move):
    if answer[0] == "blame":
        return ("blame",) + tuple([(move(thing[0]),) + thing[1:] if thing[1:2] in (("in",), ("out",)) else thing
                                   for thing in answer[1:]])
    if answer[0] == "fault":
        return ("fault", move(answer[1]), answer[2])
    return answer


class RunTest(unittest.TestCase):
    def assert_answers(self, cases, calls=12):
        for text, answer in cases:
            for move in (int, scattered, backwards):
                with self.subTest(text=text, move=move):
                    found = the_answer(moved(read(text), move), [5, -6], calls)
                    self.assertEqual(found, moved_answer(answer, move))


class HeadsTest(RunTest):
    def test_back_for_the_same_kind(self):
        for kinds, node, _, text in HEADS:
            self.assert_answers([(f"(as {kind} (as ? {node}))", ("done", text)) for kind in kinds])

    def test_each_pair_of_unlike_heads(self):
        for (kinds, _, wanted, _), (_, node, found, _) in itertools.permutations(HEADS, 2):
            for kind in kinds:
                self.assert_answers([(f"(as {kind} (as ? {node}))", blame((1, "in"), wanted, (2, "in"), found))])

    def test_where_a_node_needs_something(self):
        self.assert_answers([
            ("(call (as ? 1) 2)", blame((1, "in"), TO, (2, "in"), WHOLE)),
            ("(+ (as ? yes) 2)", blame((1, "in"), WHOLE, (2, "in"), TRUTH)),
            ("(- 2 (as ? (row ?)))", blame((2, "in"), WHOLE, (3, "in"), ROW)),
            ("(= (as ? (pair 1 2)) 2)", blame((1, "in"), WHOLE, (2, "in"), PAIR)),
            ("(if (as ? 1) 2 3)", blame((1, "in"), TRUTH, (2, "in"), WHOLE)),
            ("(at (as ? 1) 0)", blame((1, "in"), ROW, (2, "in"), WHOLE)),
            ("(at (row ? 1) (as ? no))", blame((3, "in"), WHOLE, (4, "in"), TRUTH)),
            ("(size (as ? (fn x whole x)))", blame((1, "in"), ROW, (2, "in"), TO)),
            ("(one (as ? (row ? 1 2)))", blame((1, "in"), PAIR, (2, "in"), ROW)),
            ("(two (as ? 1))", blame((1, "in"), PAIR, (2, "in"), WHOLE)),
            ("(row truth (as ? 1))", blame((1, "in"), TRUTH, (2, "in"), WHOLE)),
            ("(call (fn x truth x) (as ? 1))", blame((3, "in"), TRUTH, (4, "in"), WHOLE)),
            ("(call (self f x ? truth x) 1)", blame((2, "in"), TRUTH, (3, "in"), WHOLE)),
            ("(call (fn x ? (+ x 1)) yes)", blame((3, "in"), WHOLE, (5, "in"), TRUTH)),
            ("(let x (as ? 1) (if x 2 3))", blame((4, "in"), TRUTH, (2, "in"), WHOLE)),
        ])

    def test_the_origin_is_where_the_kind_was_lost_last(self):
        self.assert_answers([
            ("(as truth (as ? (as whole (as ? 1))))", blame((1, "in"), TRUTH, (2, "in"), WHOLE)),
            ("(as truth (as ? (as ? 1)))", blame((1, "in"), TRUTH, (3, "in"), WHOLE)),
            ("(as truth (if yes (as ? 1) 2))", blame((1, "in"), TRUTH, (4, "in"), WHOLE)),
            ("(as truth (if no (as ? 1) 2))", blame((1, "in"), TRUTH, (5, "in"), WHOLE)),
        ])

    def test_a_value_keeps_what_stands_beside_it_under_each_name(self):
        self.assert_answers([
            ("(let x (as ? 1) (pair (as whole x) (as truth x)))", blame((7, "in"), TRUTH, (2, "in"), WHOLE)),
            ("(let x (as ? 1) (pair (as whole x) (+ x x)))", ("done", "<1 2>")),
            ("(let r (row ? 1 yes) (+ (at r 0) (at r 1)))", blame((8, "in"), WHOLE, (3, "in"), TRUTH)),
            # The other binding of the same function has no guard beside it.
            ("(let g (fn x ? x) (let h (as (to truth ?) g) (call g 4)))", ("done", "4")),
        ])

    def test_words_as_in_a_plain_run(self):
        great = "9" * 40
        self.assert_answers([
            ("(+ (as ? (given 0)) (given 1))", ("done", "-1")),
            ("(let x 1 (let f (fn y ? (+ x y)) (let x 2 (call f x))))", ("done", "3")),
            ("(call (self x x ? whole (+ x 1)) 5)", ("done", "6")),
            (f"(+ (as ? {great}) 1)", ("fault", 0, "great")),
            (f"(- -{great} (as ? 1))", ("fault", 0, "great")),
            (f"(- {great} (as ? 1))", ("done", "9" * 39 + "8")),
            ("(at (as ? (row whole 1)) 1)", ("fault", 0, "none")),
            ("(at (row ? 1) (as ? -1))", ("fault", 0, "none")),
            ("(size (as ? (row whole 1 2)))", ("done", "2")),
            ("(if (as ? no) 1 (as ? 2))", ("done", "2")),
        ])


class FunctionsTest(RunTest):
    def test_a_function_taken_for_another_kind(self):
        self.assert_answers([
            ("(call (as (to whole truth) (as ? (fn x whole (< x 1)))) 3)", ("done", "no")),
            ("(call (as (to truth whole) (as ? (fn x whole 1))) yes)",
             blame((3, "out arg"), WHOLE, (2, "out arg"), TRUTH)),
            ("(call (as (to whole truth) (as ? (fn x whole 1))) 5)", blame((2, "in res"), TRUTH, (3, "in res"), WHOLE)),
            ("(call (as (to whole truth) (as ? (fn x truth yes))) 5)",
             blame((3, "out arg"), TRUTH, (2, "out arg"), WHOLE)),
            # The argument is looked at first, then what is in the function, then the result.
            ("(call (as (to whole truth) (as ? (fn x truth 1))) 5)",
             blame((3, "out arg"), TRUTH, (2, "out arg"), WHOLE)),
            ("(call (as (to whole truth) (as ? (fn x whole (at (row whole) x)))) 0)", ("fault", 4, "none")),
            ("(call (as (to truth ?) (fn x ? (+ x 1))) yes)", blame((4, "in"), WHOLE, (2, "out arg"), TRUTH)),
            ("(as truth (call (as (to whole ?) (fn x whole x)) 1))", blame((1, "in"), TRUTH, (3, "in res"), WHOLE)),
        ])

    def test_a_function_is_only_looked_at_when_called(self):
        self.assert_answers([
            ("(as (to truth truth) (as ? (fn x whole x)))", ("done", "fn")),
            ("(let f (as (to truth truth) (as ? (fn x whole x))) 3)", ("done", "3")),
            ("(if yes 1 (call (as (to truth whole) (as ? (fn x whole x))) yes))", ("done", "1")),
        ])

    def test_functions_handed_to_functions(self):
        self.assert_answers([
            ("(call (as (to (to whole truth) whole) (as ? (fn g (to whole whole) (call g 1)))) (fn y whole (< y 1)))",
             blame((3, "out arg res"), WHOLE, (2, "out arg res"), TRUTH)),
            ("(call (as (to (to truth whole) whole) (as ? (fn g (to whole whole) (call g 1)))) (fn y truth 1))",
             blame((2, "in arg arg"), TRUTH, (3, "in arg arg"), WHOLE)),
            ("(call (as (to (to whole ?) whole) (as ? (fn g (to ? whole) (call g 1)))) (fn y whole y))", ("done", "1")),
            ("(call (call (as (to whole (to whole truth)) (as ? (fn x whole (fn y whole y)))) 1) 2)",
             blame((3, "in res res"), TRUTH, (4, "in res res"), WHOLE)),
            ("(call (call (as (to whole (to truth whole)) (as ? (fn x whole (fn y whole y)))) 1) yes)",
             blame((4, "out res arg"), WHOLE, (3, "out res arg"), TRUTH)),
        ])

    def test_several_guards_the_argument_from_the_outermost_in(self):
        self.assert_answers([
            ("(call (as (to ? whole) (as (to whole ?) (fn x ? x))) (as ? yes))",
             blame((2, "out arg"), WHOLE, (6, "in"), TRUTH)),
            ("(call (as (to truth ?) (as (to ? ?) (as (to whole ?) (fn x ? x)))) yes)",
             blame((3, "out arg"), WHOLE, (2, "out arg"), TRUTH)),
            ("(call (as (to ? ?) (as (to whole ?) (fn x ? (if x 1 2)))) 3)",
             blame((5, "in"), TRUTH, (3, "out arg"), WHOLE)),
            ("(call (as (to truth ?) (as (to ? ?) (fn x whole x))) yes)",
             blame((3, "out arg"), WHOLE, (2, "out arg"), TRUTH)),
        ])

    def test_several_guards_the_result_from_the_innermost_out(self):
        self.assert_answers([
            ("(as truth (call (as (to whole ?) (as (to whole whole) (fn x whole (as ? x)))) 3))",
             blame((1, "in"), TRUTH, (3, "in res"), WHOLE)),
            ("(call (as (to whole truth) (as (to whole ?) (as (to whole whole) (fn x whole (as ? x))))) 3)",
             blame((2, "in res"), TRUTH, (3, "in res"), WHOLE)),
            ("(call (as (to whole truth) (as (to whole ?) (as (to whole whole) (fn x whole (as ? yes))))) 3)",
             blame((4, "in res"), WHOLE, (6, "in"), TRUTH)),
            ("(call (as (to ? truth) (as (to ? ?) (fn x ? 1))) 3)", blame((2, "in res"), TRUTH, (3, "in res"), WHOLE)),
        ])

    def test_its_own_name_is_the_function_without_what_stands_beside_it(self):
        self.assert_answers([
            ("(call (as (to whole truth) (as ? (self f x ? ? (if (< x 1) (as ? 7) (= 7 (call f 0)))))) 1)",
             ("done", "yes")),
            ("(call (as (to truth ?) (as ? (self f x ? ? (if (if (= 1 1) x x) (call f no) 8)))) yes)", ("done", "8")),
            # Guarded, the arguments of the calls within would have lost their kind at place 2 again.
            ("(call (as (to truth ?) (self f x ? ? (if x (call f no) (+ x 1)))) yes)",
             blame((9, "in"), WHOLE, (7, "in"), TRUTH)),
            ("(call (as (to whole whole) (as ? (self f x ? ? (if (< x 1) (as ? f) (let y (call f 0) 1))))) 5)",
             ("done", "1")),
        ])

    def test_a_name_for_it_from_outside_keeps_what_stands_beside_it(self):
        self.assert_answers([
            ("(let f (as (to whole truth) (as ? (fn x whole x))) (let g f (call g 1)))",
             blame((2, "in res"), TRUTH, (3, "in res"), WHOLE)),
        ])


class ThingsTest(RunTest):
    def test_things_of_rows_and_pairs_when_they_are_read(self):
        self.assert_answers([
            ("(at (as (row truth) (as ? (row whole 1))) 0)", blame((2, "in item"), TRUTH, (3, "in item"), WHOLE)),
            ("(one (as (pair truth whole) (as ? (pair 1 2))))", blame((2, "in one"), TRUTH, (3, "in one"), WHOLE)),
            ("(two (as (pair truth whole) (as ? (pair 1 2))))", ("done", "2")),
            ("(two (as (pair whole truth) (as ? (pair 1 2))))", blame((2, "in two"), TRUTH, (3, "in two"), WHOLE)),
            ("(one (as (pair whole truth) (as ? (pair 1 2))))", ("done", "1")),
            ("(at (as (row truth) (row ? yes 1)) 0)", ("done", "yes")),
            ("(at (as (row truth) (row ? yes 1)) 1)", blame((2, "in item"), TRUTH, (4, "in"), WHOLE)),
            ("(at (as (row truth) (row ? yes 1)) 2)", ("fault", 0, "none")),
            ("(call (at (as (row (to whole truth)) (as ? (row (to whole whole) (fn x whole x)))) 0) 4)",
             blame((3, "in item res"), TRUTH, (4, "in item res"), WHOLE)),
            ("(call (one (as (pair (to truth ?) ?) (as ? (pair (fn x whole x) 1)))) yes)",
             blame((4, "out one arg"), WHOLE, (3, "out one arg"), TRUTH)),
        ])

    def test_the_size_reads_no_thing(self):
        self.assert_answers([
            ("(size (as (row truth) (as ? (row whole 1 2))))", ("done", "2")),
            ("(size (as (row truth) (row ? 1 2 3)))", ("done", "3")),
            ("(size (as (row (row truth)) (as ? (row whole))))", ("done", "0")),
        ])

    def test_in_the_text_of_the_answer(self):
        self.assert_answers([
            ("(as (row truth) (as ? (row whole 1)))", blame((1, "in item"), TRUTH, (2, "in item"), WHOLE)),
            ("(as (row truth) (as ? (row whole)))", ("done", "[]")),
            ("(pair 3 (as (pair truth whole) (as ? (pair 1 2))))", blame((3, "in one"), TRUTH, (4, "in one"), WHOLE)),
            ("(as (row (row truth)) (as ? (row (row whole) (row whole) (row whole 1))))",
             blame((1, "in item item"), TRUTH, (2, "in item item"), WHOLE)),
        ])

    def test_several_guards_from_the_innermost_out(self):
        self.assert_answers([
            ("(if (at (as (row ?) (as (row whole) (row ? 1))) 0) 1 2)", blame((1, "in"), TRUTH, (3, "in item"), WHOLE)),
            ("(as (row truth) (as (row ?) (as (row whole) (row ? 1))))",
             blame((1, "in item"), TRUTH, (2, "in item"), WHOLE)),
            ("(as (row truth) (as (row ?) (as (row whole) (row ? yes))))",
             blame((3, "in item"), WHOLE, (4, "in"), TRUTH)),
            ("(two (as (pair ? truth) (as (pair ? ?) (as (pair ? whole) (pair 1 (as ? 2))))))",
             blame((2, "in two"), TRUTH, (3, "in two"), WHOLE)),
        ])


class OrderTest(RunTest):
    def test_the_look_at_a_place_comes_ahead_of_all_else(self):
        fault = "(at (row whole) 0)"
        self.assert_answers([
            (f"(call (as ? 1) {fault})", blame((1, "in"), TO, (2, "in"), WHOLE)),
            (f"(+ (as ? yes) {fault})", blame((1, "in"), WHOLE, (2, "in"), TRUTH)),
            (f"(at (as ? 1) {fault})", blame((1, "in"), ROW, (2, "in"), WHOLE)),
            (f"(row truth (as ? 1) (= 1 {fault}))", blame((1, "in"), TRUTH, (2, "in"), WHOLE)),
            (f"(let x (as truth (as ? 1)) {fault})", blame((2, "in"), TRUTH, (3, "in"), WHOLE)),
            (f"(pair (as truth (as ? 1)) {fault})", blame((2, "in"), TRUTH, (3, "in"), WHOLE)),
            (f"(if (as ? 1) {fault} {fault})", blame((1, "in"), TRUTH, (2, "in"), WHOLE)),
            # And what stands ahead of it comes first.
            (f"(+ {fault} (as ? yes))", ("fault", 1, "none")),
            (f"(row truth (= 1 {fault}) (as ? 1))", ("fault", 3, "none")),
            ("(size (row truth (as ? 1)))", blame((2, "in"), TRUTH, (3, "in"), WHOLE)),
        ])

    def test_no_call_left_is_found_when_function_and_argument_are_there(self):
        guarded = "(call (as (to truth whole) (as ? (fn x whole 1))) yes)"
        self.assert_answers([
            ("(call (as ? 1) 2)", blame((1, "in"), TO, (2, "in"), WHOLE)),
            ("(call (fn x whole x) (as ? yes))", blame((3, "in"), WHOLE, (4, "in"), TRUTH)),
            ("(call (fn x whole x) (at (row whole) 0))", ("fault", 3, "none")),
            ("(call (fn x ? (+ x 1)) yes)", ("spent",)),
            (guarded, ("spent",)),
            ("(+ (call (fn x whole x) 1) (as ? yes))", ("spent",)),
        ], calls=0)
        self.assert_answers([(guarded, blame((3, "out arg"), WHOLE, (2, "out arg"), TRUTH))], calls=1)

    def test_as_many_calls_as_needed_and_one_fewer(self):
        for text, needed, answer in [
            ("(call (self f x ? ? (if (< x 1) 0 (call f (- x 1)))) 3)", 4, ("done", "0")),
            ("(call (self f x ? ? (if (< x 1) 0 (+ 1 (call f (- x 1))))) 11)", 12, ("done", "11")),
            ("(as truth (call (self f x ? ? (if (< x 1) 0 (call f (- x 1)))) 3))", 4,
             blame((1, "in"), TRUTH, (7, "in"), WHOLE)),
            ("(at (row ?) (call (fn x whole x) 1))", 1, ("fault", 0, "none")),
        ]:
            for calls in range(13):
                self.assert_answers([(text, answer if calls >= needed else ("spent",))], calls)

    def test_a_deep_run(self):
        inner = "(+ 1 (as whole (call (as ? f) x)))"
        self.assert_answers([(f"(call (self f x ? ? (let y x {inner})) 1)", ("spent",))])


class RefusedTest(unittest.TestCase):
    def test_every_run_refuses_like_the_looker(self):
        for one_run in RUNS:
            for calls in (0, 12):
                with self.assertRaises(NoName) as caught:
                    one_run(read("(+ yes x)"), [], calls)
                self.assertEqual(caught.exception.place, 2)
                with self.assertRaises(TooDeep) as caught:
                    one_run(read(f"(if yes 1 (size (row {kind_text(4)})))"), [], calls)
                self.assertEqual(caught.exception.place, 4)
                with self.assertRaises(Parted) as caught:
                    one_run(read("(if yes 1 (+ 1 (one (pair yes 2))))"), [], calls)
                error = caught.exception
                self.assertEqual((error.place, error.kind, error.by, error.wanted, error.way),
                                 (5, TRUTH, 3, WHOLE, ()))

    def test_together_is_false_for_the_tree_and_true_for_the_machine_by_itself(self):
        tree = read("(as truth (as ? 1))")
        for answer in (run(tree, [], 1), run(tree, [], 1, False), run(tree, [], 1, together=True),
                       by_machine(tree, [], 1), by_machine(tree, [], 1, True), by_machine(tree, [], 1, together=False)):
            self.assertEqual(answer, blame((1, "in"), TRUTH, (2, "in"), WHOLE))

    def test_numbers_handed_in_stay(self):
        for one_run in RUNS:
            for handed in ([], [4], [9, 8, 7, 6, 5, 4, 3, 2]):
                numbers = list(handed)
                self.assertEqual(one_run(read("(+ (as ? (given 0)) (given 7))"), numbers, 0),
                                 ("done", str((handed + [0])[0] + (handed[7] if len(handed) == 8 else 0))))
                self.assertEqual(numbers, handed)


if __name__ == "__main__":
    unittest.main()
