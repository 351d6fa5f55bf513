"""What holds over the whole program: kinds taken away one after the other, and all that is told of one text."""

import unittest

from blamewise.desk import eased, plainly, told
from blamewise.errors import Parted, TooDeep
from blamewise.looker import looked
from blamewise.machine import Machine
from blamewise.plain import plain
from blamewise.ready import looks_of
from blamewise.spots import joined, looser_tree, loosened, met, spots
from blamewise.texts import read, show, show_kind
from blamewise.trees import places
from blamewise.ways import every
from blamewise.why import road, softened
from tests.all_runs import RUNS, the_answer
from tests.counting import Counting
from tests.many_kinds import UNTOLD
from tests.many_programs import changed_kinds, other_program
from tests.many_runs import LOOPS, LYING, NUMBERS, TAKEN, TOLD

# Whatever kinds are taken away, these are refused.
REFUSED = [read(text) for text in ("(+ yes (as whole 1))", "(pair (row (row truth)) (size (pair 1 2)))", "(if 1 2 3)")]

OTHERS = [other_program(tree, number) for number, tree in enumerate(TOLD + LYING)]


def chain_of(tree, seed):
    """The program loosened more and more, at last by all bits, with no two alike right behind each other."""
    rule = Counting(seed)
    numbers = list(range(spots(tree)))
    found, bits = [tree], 0
    while numbers:
        for _ in range(1 + len(numbers) // 5):
            bits += 2 ** numbers.pop(rule.below(len(numbers)))
        found.append(loosened(tree, bits))
    return [one for one, next_one in zip(found, found[1:] + [None]) if one != next_one]


def ended(tree):
    """How the machine ends, refused among it, and how many calls it has done."""
    try:
        machine = Machine(tree, NUMBERS, 12)
    except (Parted, TooDeep):
        return (("refused",), 0)
    while machine.step():
        pass
    return (machine.answer(), 12 - machine.calls_left())


class TakenAwayTest(unittest.TestCase):
    def test_along_programs_loosened_more_and_more(self):
        ranks = {"refused": 0, "blame": 1}
        seen = {}
        for number, tree in enumerate(OTHERS[::2] + LYING[::3] + LOOPS[::4] + REFUSED):
            chain = chain_of(tree, number)
            plain_answer = plain(tree, NUMBERS, 12)
            found = [ended(one) for one in chain]
            order = [ranks.get(answer[0], 2) for answer, _ in found]
            self.assertEqual(order, sorted(order), tree)
            for answer, _ in found:
                if answer[0] not in ranks:
                    self.assertEqual(answer, plain_answer, tree)
            seen[tuple(sorted(set(order)))] = seen.get(tuple(sorted(set(order))), 0) + 1
        for ways in ((0, 1, 2), (0, 2), (1, 2), (2,), (0,)):
            self.assertGreater(seen[ways], 2, seen)

    def test_the_looser_of_two_that_are_blamed_has_done_as_many_calls_or_more(self):
        more = 0
        for number, tree in enumerate(LYING + LOOPS):
            found = [ended(one) for one in chain_of(tree, number)]
            for (answer, calls), (next_answer, next_calls) in zip(found, found[1:]):
                if answer[0] == "blame":
                    self.assertGreaterEqual(next_calls, calls, tree)
                    more += next_calls > calls
                else:
                    self.assertEqual((next_answer, next_calls), (answer, calls))
        self.assertGreater(more, 20)

    def test_a_program_that_is_taken_stays_taken(self):
        rule = Counting(81)
        for tree in TAKEN[::2]:
            one, other = [loosened(tree, rule.below(2 ** 20) ** 3) for _ in range(2)]
            for looser in (one, other, met(one, other), joined(one, other)):
                self.assertTrue(looser_tree(tree, looser))
                for kinds in looked(looser):
                    self.assertEqual(sorted(kinds), sorted(places(tree)))

    def test_answers_of_met_and_joined_programs(self):
        rule = Counting(82)
        for tree in LYING[::2] + LOOPS[::3]:
            one, other = [loosened(tree, rule.below(2 ** 20) ** 3) for _ in range(2)]
            answers = [the_answer(program, NUMBERS, 5) for program in (tree, met(one, other), one, joined(one, other))]
            order = [answer[0] != "blame" for answer in answers]
            self.assertEqual(order, sorted(order))
            self.assertLessEqual(len({answer for answer in answers if answer[0] != "blame"}), 1)

    def test_over_all_ways_one_answer_that_is_no_blame(self):
        counted = 0
        for tree in TAKEN:
            if spots(tree) <= 3:
                counted += 1
                answers = set(every(tree, NUMBERS, 6))
                plain_answer = plain(tree, NUMBERS, 6)
                wanted = set() if plain_answer[0] == "wrong" else {plain_answer}
                self.assertEqual({answer for answer in answers if answer[0] != "blame"}, wanted)
        self.assertGreater(counted, 100)

    def test_softened_programs_run_like_others(self):
        blamed = 0
        for tree in OTHERS[::2]:
            try:
                soft, rows = softened(tree)
            except TooDeep:
                continue
            # A nest above 8 isn't promised, and nothing is refused for it.
            answer, plain_answer = the_answer(soft, NUMBERS, 6), plain(tree, NUMBERS, 6)
            # A part that can't be used has the new node round it, where there is one.
            inner = {("wrong", new): ("wrong", place) for place, new, _, _, _, _ in rows}
            soft_answer = plain(soft, NUMBERS, 6)
            self.assertEqual(inner.get(soft_answer, soft_answer), plain_answer)
            if answer[0] == "blame":
                blamed += len(rows) > 0
                self.assertIn(UNTOLD, road(soft, answer[1])[-1])
            else:
                self.assertEqual(answer, plain_answer)
        self.assertGreater(blamed, 10)


def words_of(answer):
    """What is told of an answer, told another way."""
    if answer[0] != "blame":
        return " ".join(map(str, answer))
    told_words = ["blame"]
    for label, kind in (answer[1:3], answer[3:5]):
        told_words += [str(label[0]), label[1], ".".join(label[2]) or "-", show_kind(kind), "from"]
    return " ".join(told_words[:-1])


class TextTest(unittest.TestCase):
    def test_what_all_runs_come_to_is_told(self):
        for tree in TAKEN:
            text = show(tree)
            if len(text) > 2000:
                continue
            for calls in (1, 12):
                for one_run in RUNS:
                    self.assertEqual(told(text, NUMBERS, calls), words_of(one_run(tree, NUMBERS, calls)))
                self.assertEqual(plainly(text, NUMBERS, calls), words_of(plain(tree, NUMBERS, calls)))

    def test_programs_that_may_be_refused(self):
        firsts = {}
        for tree in OTHERS:
            text = show(tree)
            found = told(text, NUMBERS, 12)
            firsts[found.split(" ")[0]] = firsts.get(found.split(" ")[0], 0) + 1
            self.assertEqual(plainly(text, NUMBERS, 12), words_of(plain(tree, NUMBERS, 12)))
            try:
                looks_of(tree)
            except Parted as error:
                way = ".".join(error.way) or "-"
                self.assertEqual(found, f"refused {error.place} {show_kind(error.kind)} by {error.by} "
                                        f"{show_kind(error.wanted)} at {way}")
            except TooDeep as error:
                self.assertEqual(found, f"deep {error.place}")
            else:
                self.assertEqual(found, words_of(the_answer(tree, NUMBERS, 12)))
        self.assertGreater(min(firsts.get(word, 0) for word in ("refused", "deep", "done", "blame")), 2, firsts)

    def test_eased_wholly_a_text_is_told_as_plainly_or_blamed(self):
        for tree in TAKEN[::3]:
            text = eased(show(tree), 2 ** spots(tree) - 1)
            self.assertEqual(read(text), changed_kinds(tree, lambda kind: UNTOLD))
            found, plain_words = told(text, NUMBERS, 12), plainly(text, NUMBERS, 12).split(" ")
            if plain_words[0] == "wrong":
                self.assertTrue(found.startswith(f"blame {plain_words[1]} in - "), found)
            else:
                self.assertEqual(found, " ".join(plain_words))


if __name__ == "__main__":
    unittest.main()
