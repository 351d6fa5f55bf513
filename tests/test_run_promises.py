"""What holds of the runs of all programs that the looker takes, over many of them."""

import unittest

from blamewise.kinds import part
from blamewise.looker import looked
from blamewise.machine import by_machine
from blamewise.plain import plain
from blamewise.ready import looks_of
from blamewise.runner import run
from blamewise.texts import read
from tests.all_runs import RUNS
from tests.many_kinds import UNTOLD
from tests.many_programs import changed_kinds
from tests.many_runs import LOOSER, LYING, NUMBERS, TAKEN, TOLD

ANSWERS = [(tree, calls, run(tree, NUMBERS, calls)) for tree in TAKEN for calls in (0, 1, 4, 12)]
BLAMES = [(tree, answer) for tree, _, answer in ANSWERS if answer[0] == "blame"]


class DrawnTest(unittest.TestCase):
    def test_the_programs_end_in_every_way(self):
        ends = [answer[:1] for _, _, answer in ANSWERS]
        self.assertGreater(ends.count(("done",)), 500)
        self.assertGreater(ends.count(("spent",)), 500)
        words = [answer[2] for _, _, answer in ANSWERS if answer[0] == "fault"]
        self.assertGreater(words.count("none"), 20)
        self.assertGreater(words.count("great"), 2)
        sides = [(answer[1][1], len(answer[1][2])) for _, answer in BLAMES]
        for side in (("in", 0), ("in", 1), ("in", 2), ("out", 1), ("out", 2)):
            self.assertGreater(sides.count(side), 3, side)
        heads = {(answer[2], answer[4]) for _, answer in BLAMES}
        self.assertGreater(len(heads), 14)


class SameAnswerTest(unittest.TestCase):
    def test_the_tree_and_the_machine_laid_together_or_not(self):
        for tree, calls, answer in ANSWERS:
            for one_run in RUNS[1:]:
                self.assertEqual(one_run(tree, NUMBERS, calls), answer, (tree, calls, one_run))

    def test_whatever_was_asked_ahead(self):
        for tree, calls, answer in reversed(ANSWERS[::3]):
            self.assertEqual(run(tree, list(NUMBERS), calls), answer)
        refused = read("(+ 1 yes)")
        for tree, calls, answer in ANSWERS[::7]:
            for one_run in RUNS:
                with self.assertRaises(ValueError):
                    one_run(refused, NUMBERS, calls)
            self.assertEqual(by_machine(tree, list(NUMBERS), calls), answer)


class ToldKindsTest(unittest.TestCase):
    """Told kinds change no answer but to a blame."""

    def test_the_run_ends_as_the_plain_one_or_in_a_blame(self):
        wrong = 0
        for tree, calls, answer in ANSWERS:
            found = plain(tree, NUMBERS, calls)
            if found[0] == "wrong":
                wrong += 1
                self.assertEqual(answer[0], "blame", tree)
            elif answer[0] != "blame":
                self.assertEqual(answer, found, tree)
        self.assertGreater(wrong, 100)

    def test_with_all_kinds_untold_a_blame_just_where_the_plain_run_ends_wrong(self):
        wrong = 0
        for tree in TAKEN:
            loosest = changed_kinds(tree, lambda kind: UNTOLD)
            for calls in (1, 12):
                found = plain(loosest, NUMBERS, calls)
                answer = run(loosest, NUMBERS, calls)
                if found[0] == "wrong":
                    wrong += 1
                    self.assertEqual(answer[:2], ("blame", (found[1], "in", ())), tree)
                else:
                    self.assertEqual(answer, found, tree)
        self.assertGreater(wrong, 100)

    def test_wholly_told_programs_never_end_in_a_blame(self):
        for tree in TOLD:
            self.assertEqual(looks_of(tree), [])
            for calls in range(0, 13, 3):
                self.assertEqual(run(tree, NUMBERS, calls), plain(tree, NUMBERS, calls))
                self.assertNotIn(plain(tree, NUMBERS, calls)[0], ("wrong", "blame"))

    def test_kinds_taken_away_change_only_blames(self):
        changed = 0
        for tree, looser in zip(LYING + TOLD, LOOSER):
            answer, other = run(tree, NUMBERS, 12), run(looser, NUMBERS, 12)
            if answer[0] != "blame":
                self.assertEqual(other, answer)
            changed += other != answer
        self.assertGreater(changed, 10)


def ground_of(kind):
    return kind[:1] + (UNTOLD,) * (len(kind) - 1)


class BlameTest(unittest.TestCase):
    """A blame tells two looks of the program, and what they find at the end of its ways."""

    def ends_of(self, tree, label):
        """The kinds at the end of the label's way in the look at its place."""
        looks = {place: (kind, other) for place, kind, other in looks_of(tree)}
        return [part(kind, label[2]) for kind in looks[label[0]]]

    def test_the_blamed_look_and_the_one_where_the_kind_was_lost(self):
        for tree, (_, label, wanted, origin, found) in BLAMES:
            ends = self.ends_of(tree, label)
            if label[1] == "out":
                ends.reverse()
            self.assertEqual(ends[0], UNTOLD)
            self.assertEqual(ground_of(ends[1]), wanted)
            ends = self.ends_of(tree, origin)
            if origin[1] == "out":
                ends.reverse()
            self.assertEqual(ground_of(ends[0]), found)
            self.assertEqual(ends[1], UNTOLD)
            self.assertNotEqual(wanted, found)
            self.assertNotIn(UNTOLD, (wanted, found))

    def test_sides_by_how_often_the_way_goes_to_an_argument(self):
        for _, answer in BLAMES:
            for place, side, way in (answer[1], answer[3]):
                self.assertEqual(side, "out" if way.count("arg") % 2 else "in")

    def test_both_may_be_one_look(self):
        # What is handed in at the argument comes out at the result, of another kind.
        tree = read("(call (as (to whole truth) (fn x ? x)) 1)")
        answer = ("blame", (2, "in", ("res",)), ("truth",), (2, "out", ("arg",)), ("whole",))
        for one_run in RUNS:
            self.assertEqual(one_run(tree, [], 1), answer)

    def test_forms_of_answers(self):
        for tree, _, answer in ANSWERS:
            self.assertIs(type(answer), tuple)
            self.assertEqual(len(answer), {"done": 2, "spent": 1, "fault": 3, "blame": 5}[answer[0]])
            if answer[0] == "fault":
                self.assertIn(answer[1], looked(tree)[0])
            if answer[0] == "done":
                self.assertIs(type(answer[1]), str)


if __name__ == "__main__":
    unittest.main()
