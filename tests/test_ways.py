"""All ways of taking kinds away, and the tightest ones."""

import unittest

from blamewise.errors import NoName, Parted, TooDeep, TooMany
from blamewise.plain import plain
from blamewise.runner import run
from blamewise.spots import loosened, spots
from blamewise.texts import read
from blamewise.ways import every, tightest
from tests.many_kinds import TRUTH, WHOLE
from tests.many_programs import backwards, lying_programs, moved, other_program, scattered
from tests.many_runs import BY_HAND, LOOPS
from tests.samples import kind_text


def blame(place, wanted, origin, found, way=()):
    return ("blame", (place, "in", way), wanted, (origin, "in", ()), found)


REFUSED = ("refused", 1)

# (program, its answers, the tightest ways)
WAYS = [
    ("7", [("done", "7")], [0]),
    ("(+ 1 (as ? yes))", [blame(2, WHOLE, 3, TRUTH)], []),
    ("(as whole (as ? 1))", [("done", "1")] * 2, [0]),
    ("(as truth (as ? 1))", [blame(1, TRUTH, 2, WHOLE), ("done", "1")], [1]),
    ("(as truth 1)", [REFUSED, ("done", "1")], [1]),
    ("(+ 1 (as whole (as ? yes)))", [blame(3, WHOLE, 4, TRUTH), blame(2, WHOLE, 4, TRUTH)], []),
    ("(at (row whole) 0)", [("fault", 0, "none")] * 2, [0]),
    ("(call (self f x whole ? (call f x)) 1)", [("spent",)] * 2, [0]),
    ("(as (row truth) (row ? 1))", [blame(1, TRUTH, 2, WHOLE, ("item",))] + [("done", "[1]")] * 3, [1, 2]),
    # Either of two kinds may be taken away.
    ("(fn z ? (as truth (as whole z)))", [("refused", 2)] + [("done", "fn")] * 3, [1, 2]),
    ("(call (fn x truth 1) (as whole 2))", [("refused", 3), ("done", "1"), blame(3, TRUTH, 4, WHOLE), ("done", "1")],
     [1]),
    # A kind too deep is refused likewise, at the node's own place.
    (f"(if yes 1 (size (row {kind_text(4)})))",
     [("refused", 4) if bits & 15 in (0, 8) else ("done", "1") for bits in range(16)], [1, 2, 4]),
]

SEVEN = "(as (pair (pair whole whole) (pair whole whole)) 1)"
SEVEN_FREE = "(as (pair (pair whole whole) (pair whole whole)) x)"
SIX = "(as (pair (pair whole whole) (pair whole ?)) {})"

DRAWN = lying_programs(150, seed=51, most_nodes=40) + BY_HAND + LOOPS[:60]
OTHERS = [other_program(tree, number) for number, tree in enumerate(DRAWN)]
SMALL = [tree for tree in DRAWN + OTHERS if spots(tree) <= 6]
FOUND = [(tree, calls, every(tree, [3, -2], calls)) for tree in SMALL for calls in (2, 12)]


class EveryTest(unittest.TestCase):
    def test_by_hand(self):
        for text, answers, ways in WAYS:
            with self.subTest(text=text):
                self.assertEqual(every(read(text), [], 12), answers)
                self.assertEqual(tightest(read(text), [], 12), ways)

    def test_as_many_answers_as_ways_in_the_order_of_the_bits(self):
        for many in range(7):
            tree = read("(pair (row ?" + " (as whole (as ? 1))" * min(many, 4) + ") (row ?"
                        + " (as truth (as ? 2))" * (many - min(many, 4)) + "))")
            answers = every(tree, [], 0)
            self.assertEqual((spots(tree), len(answers)), (many, 2 ** many))
            for bits, answer in enumerate(answers):
                self.assertEqual(answer, run(loosened(tree, bits), [], 0))
            self.assertEqual(tightest(tree, [], 0), [2 ** many - 2 ** min(many, 4)])

    def test_places_that_do_not_rise(self):
        for move in (scattered, backwards):
            tree = moved(read("(fn z ? (as truth (as whole z)))"), move)
            self.assertEqual(every(tree, [], 0), [("refused", move(2))] + [("done", "fn")] * 3)

    def test_over_many_programs(self):
        counted = {"refused": 0, "blame": 0, "done": 0, "spent": 0, "fault": 0}
        for tree, calls, answers in FOUND:
            self.assertIs(type(answers), list)
            self.assertEqual(len(answers), 2 ** spots(tree))
            for bits, answer in enumerate(answers):
                counted[answer[0]] += 1
                try:
                    self.assertEqual(run(loosened(tree, bits), [3, -2], calls), answer)
                except (Parted, TooDeep) as refusal:
                    self.assertEqual(answer, ("refused", refusal.place))
        self.assertGreater(min(counted.values()), 10, counted)

    def test_no_more_than_one_answer_that_is_no_blame(self):
        for tree, calls, answers in FOUND:
            found = {answer for answer in answers if answer[0] not in ("blame", "refused")}
            plainly = plain(tree, [3, -2], calls)
            self.assertLessEqual(found, set() if plainly[0] == "wrong" else {plainly})

    def test_numbers_and_lists(self):
        tree = read("(as whole (given 1))")
        numbers = [4, 5]
        first = every(tree, numbers, 0)
        self.assertEqual((first, numbers), ([("done", "5")] * 2, [4, 5]))
        first.clear()
        ways = tightest(tree, numbers, 0)
        ways.append(9)
        self.assertEqual((every(tree, numbers, 0), tightest(tree, numbers, 0)), ([("done", "5")] * 2, [0]))


class TightestTest(unittest.TestCase):
    def test_several_ways_rising(self):
        pair = "(fn z ? (pair (as truth (as whole z)) (as truth (as whole z))))"
        self.assertEqual(tightest(read(pair), [], 0), [5, 6, 9, 10])
        three = "(fn z ? (row ? (as truth (as whole z)) (as truth (as whole z)) (as truth (as whole z))))"
        self.assertEqual(tightest(read(three), [], 0), [21, 22, 25, 26, 37, 38, 41, 42])

    def test_over_many_programs(self):
        many = []
        for tree, calls, answers in FOUND[::2]:
            good = [bits for bits, answer in enumerate(answers) if answer[0] not in ("blame", "refused")]
            wanted = [bits for bits in good if not any(bits - 2 ** k in good for k in range(6) if bits // 2 ** k % 2)]
            self.assertEqual(tightest(tree, [3, -2], calls), wanted)
            many.append(len(wanted))
        self.assertGreater(min(many.count(0), many.count(1), len(many) - many.count(0) - many.count(1)), 8)


class RefusedTest(unittest.TestCase):
    def refuse(self, text, refusal):
        for told in (every, tightest):
            with self.assertRaises(refusal) as caught:
                told(read(text), [], 12)
        return caught.exception

    def test_too_many_spots(self):
        self.refuse(SEVEN, TooMany)
        self.refuse("(row (row (row ?)) (row (row whole)) (as (row whole) 1) (as whole 2))", TooMany)
        self.assertEqual(len(every(read(SIX.format("(as ? 1)")), [], 0)), 64)

    def test_too_many_goes_ahead_of_a_free_name(self):
        self.refuse(SEVEN_FREE, TooMany)
        self.assertEqual(self.refuse(SIX.format("x"), NoName).place, 1)

    def test_a_free_name_goes_ahead_of_kinds_that_part(self):
        self.assertEqual(self.refuse("(pair (as truth 1) y)", NoName).place, 3)
        self.assertEqual(self.refuse("(fn x whole (+ yes y))", NoName).place, 3)

    def test_refused_whatever_is_taken_away(self):
        self.assertEqual(every(read("(+ yes (as whole 1))"), [], 0), [("refused", 1)] * 2)
        self.assertEqual(tightest(read("(+ yes (as whole 1))"), [], 0), [])

    def test_the_same_answer_behind_a_refusal(self):
        tree = read("(fn z ? (as truth (as whole z)))")
        first = (every(tree, [], 3), tightest(tree, [], 3))
        self.refuse(SEVEN, TooMany)
        self.refuse("x", NoName)
        self.assertEqual((every(tree, [], 3), tightest(tree, [], 3)), first)


if __name__ == "__main__":
    unittest.main()
