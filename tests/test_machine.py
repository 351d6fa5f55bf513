"""The machine: its steps, what waits, and what stands beside values."""

import unittest

from blamewise.errors import NoName, Parted, TooDeep
from blamewise.laying import laid
from blamewise.looks import STILL, allowed, made, weight
from blamewise.machine import Machine, by_machine
from blamewise.ready import deepest
from blamewise.texts import read, read_kind
from blamewise.trees import places
from tests.many_kinds import ROW, TRUTH, WHOLE
from tests.many_runs import NUMBERS, TAKEN
from tests.model import Model
from tests.samples import kind_text

BACK = ("back",)

# A function that calls itself last, of kind (to ? ?), without looks.
LOOP = "(self f x ? ? (call f x))"


def look_at(place, kind, other):
    """What waits for the look at a place between two kinds."""
    return ("look", made(read_kind(kind), read_kind(other), place))


def asked(kind, *label):
    return ("look", ((kind, label), ("same",), None))


def tagged(kind, *label):
    return ("look", (None, ("same",), (kind, label)))


def ended(tree, numbers, calls, together=True):
    """The machine with its answer there."""
    machine = Machine(tree, numbers, calls, together)
    while machine.step():
        pass
    return machine


def all_laid(waits):
    """What waits, of looks alone, laid together, or nothing where they come to still."""
    found = waits[-1][1]
    for _, look in reversed(waits[:-1]):
        found = laid(found, look)
    return [] if found == STILL else [("look", found)]


# (program, bound of calls, what waits behind spent where looks aren't laid together)
WAITING = [
    # No call was done yet.
    (f"(as whole (call {LOOP} 1))", 0, []),
    # A call that doesn't stand last.
    (f"(+ 1 (call {LOOP} 1))", 1, [BACK]),
    (f"(+ 1 (call {LOOP} 1))", 9, [BACK]),
    (f"(let y (call {LOOP} 1) y)", 1, [BACK]),
    (f"(if (call {LOOP} 1) 1 2)", 1, [BACK]),
    (f"(call (call {LOOP} 1) 2)", 1, [BACK]),
    (f"(call (fn y ? y) (call {LOOP} 1))", 1, [BACK]),
    (f"(row ? (call {LOOP} 1))", 1, [BACK]),
    (f"(pair 1 (as whole (call {LOOP} 1)))", 1, [BACK]),
    (f"(size (let y 1 (call {LOOP} 1)))", 1, [BACK]),
    (f"(let y (as whole (if yes (call {LOOP} 1) 2)) y)", 1, [BACK]),
    ("(call (self f x ? ? (+ 1 (call f x))) 1)", 3, [BACK, BACK]),
    ("(+ 1 (call (self f x ? ? (+ 1 (call f x))) 1))", 4, [BACK] * 4),
    # One that stands last, without a look.
    (f"(call {LOOP} 1)", 1, []),
    (f"(call {LOOP} 1)", 12, []),
    (f"(let y 1 (if yes (as ? (call {LOOP} y)) 2))", 5, []),
    ("(call (self f x ? ? (let y x (if yes (call f y) 2))) 1)", 4, []),
    # One that stands last, with one look.
    (f"(as whole (call {LOOP} 1))", 1, [look_at(1, "?", "whole")]),
    (f"(let y 1 (as truth (call {LOOP} y)))", 1, [look_at(3, "?", "truth")]),
    (f"(as (to whole truth) (call {LOOP} 1))", 1, [look_at(1, "?", "(to whole truth)")]),
    # With looks at the nodes round it that stand last, the outermost node's first.
    (f"(as truth (as ? (as whole (call {LOOP} 1))))", 1,
     [look_at(1, "?", "truth"), look_at(2, "whole", "?"), look_at(3, "?", "whole")]),
    (f"(let w {LOOP} (as truth (let y 1 (as ? (as whole (if yes (call w 1) y))))))", 1,
     [look_at(6, "?", "truth"), look_at(9, "whole", "?"), look_at(10, "?", "whole")]),
    (f"(let w {LOOP} (as truth (if no 1 (as ? (as whole (let y 2 (call w y)))))))", 1,
     [look_at(6, "?", "truth"), look_at(10, "whole", "?"), look_at(11, "?", "whole")]),
    (f"(let w {LOOP} (as whole (as ? (as whole (as ? (as whole (call w 1)))))))", 1,
     [look_at(6, "?", "whole"), look_at(7, "whole", "?"), look_at(8, "?", "whole"), look_at(9, "whole", "?"),
      look_at(10, "?", "whole")]),
    # Looks of several calls, each function's behind those of the one that called it.
    ("(as whole (call (self f x ? ? (as whole (call f x))) 1))", 1, [look_at(1, "?", "whole")]),
    ("(as whole (call (self f x ? ? (as whole (call f x))) 1))", 2,
     [look_at(1, "?", "whole"), look_at(3, "whole", "?"), look_at(4, "?", "whole")]),
    ("(as whole (call (self f x ? ? (as whole (call f x))) 1))", 3,
     [look_at(1, "?", "whole")] + [look_at(3, "whole", "?"), look_at(4, "?", "whole")] * 2),
    # Looks that come to still where they are laid together.
    ("(call (self f x ? whole (as whole (as ? (call f x)))) 1)", 2,
     [look_at(3, "?", "whole"), look_at(4, "whole", "?")]),
    ("(call (self f x ? whole (as whole (as ? (call f x)))) 1)", 3,
     [look_at(3, "?", "whole"), look_at(4, "whole", "?")] * 2),
    # The result's looks beside the function, the outermost first.
    (f"(call (as (to ? truth) {LOOP}) 1)", 1, [asked(TRUTH, 2, "in", ("res",))]),
    (f"(call (as (to ? truth) (as (to ? ?) (as (to ? whole) {LOOP}))) 1)", 1,
     [asked(TRUTH, 2, "in", ("res",)), tagged(WHOLE, 3, "in", ("res",)), asked(WHOLE, 4, "in", ("res",))]),
    (f"(as ? (call (as (to ? whole) {LOOP}) 1))", 1, [tagged(WHOLE, 1, "in", ()), asked(WHOLE, 3, "in", ("res",))]),
    (f"(call (as (to whole truth) (as ? {LOOP})) 1)", 1, [asked(TRUTH, 2, "in", ("res",))]),
    ("(call (as (to whole truth) (as ? (self f x whole whole (call f x)))) 1)", 1,
     [asked(TRUTH, 2, "in", ("res",)), tagged(WHOLE, 3, "in", ("res",))]),
    # A look that is still is never there, whatever the others beside the function are.
    (f"(call (as (to whole ?) {LOOP}) 1)", 1, []),
    (f"(call (as (to ? truth) (as (to ? ?) (as (to whole ?) {LOOP}))) 1)", 1, [asked(TRUTH, 2, "in", ("res",))]),
    (f"(call (as (to whole ?) (as (to whole truth) {LOOP})) 1)", 1,
     [tagged(TRUTH, 2, "in", ("res",)), asked(TRUTH, 3, "in", ("res",))]),
]

# The same where they stand behind a call that doesn't stand last: parted by what goes back.
WAITING_BACK = [
    (f"(+ 1 (as whole (as ? (call (as (to ? whole) {LOOP}) 1))))", 1, [BACK], [asked(WHOLE, 6, "in", ("res",))]),
    (f"(pair 1 (call (as (to ? truth) (as (to ? ?) (as (to ? whole) {LOOP}))) 1))", 1, [BACK],
     [asked(TRUTH, 4, "in", ("res",)), tagged(WHOLE, 5, "in", ("res",)), asked(WHOLE, 6, "in", ("res",))]),
    ("(as truth (call (self f x ? ? (let y (call f x) y)) 1))", 2, [look_at(1, "?", "truth"), BACK], []),
    (f"(let w {LOOP} (as truth (call (fn x ? (let y (call (as (to ? whole) w) x) (as ? y))) 1)))", 2,
     [look_at(6, "?", "truth"), BACK], [asked(WHOLE, 11, "in", ("res",))]),
]


class MadeTest(unittest.TestCase):
    def test_made_it_has_done_nothing(self):
        for tree in TAKEN[::5]:
            for calls in (0, 7):
                machine = Machine(tree, NUMBERS, calls)
                self.assertIsNone(machine.answer())
                self.assertEqual((machine.waiting(), machine.beside(), machine.calls_left()), ([], [], calls))

    def test_refuses_when_it_is_made(self):
        for text, refusal, place in [("(+ yes x)", NoName, 2), (f"(if yes 1 (size (row {kind_text(4)})))", TooDeep, 4),
                                     ("(if yes 1 (+ 1 yes))", Parted, 5)]:
            for one in (Machine, by_machine):
                with self.assertRaises(refusal) as caught:
                    one(read(text), [], 12)
                self.assertEqual(caught.exception.place, place)

    def test_what_is_done_to_the_numbers_behind_changes_nothing(self):
        numbers = [1, 2]
        machine = Machine(read("(row ? (given 0) (given 1) (given 2))"), numbers, 0)
        numbers[0] = 9
        numbers.append(8)
        while machine.step():
            numbers.clear()
        self.assertEqual(machine.answer(), ("done", "[1 2 0]"))

    def test_laid_together_by_itself(self):
        tree = read("(as whole (as ? (as whole (call (self f x ? whole (call f x)) 1))))")
        self.assertEqual(ended(tree, [], 1, True).waiting(), [])
        machine = Machine(tree, [], 1)
        while machine.step():
            pass
        self.assertEqual(machine.waiting(), [])
        self.assertEqual(len(ended(tree, [], 1, together=False).waiting()), 2)


class StepTest(unittest.TestCase):
    def test_steps(self):
        for tree in TAKEN:
            nodes = len(places(tree))
            for calls in (0, 2, 12):
                machine = Machine(tree, NUMBERS, calls)
                left, steps, more = calls, 0, True
                while more:
                    self.assertIsNone(machine.answer())
                    more = machine.step()
                    steps += 1
                    self.assertIs(more, machine.answer() is None)
                    self.assertIn(machine.calls_left(), (left, left - 1))
                    left = machine.calls_left()
                self.assertLessEqual(steps, (calls + 1) * 10 * nodes)

    def test_nothing_behind_the_answer(self):
        for tree in TAKEN[::3]:
            for together in (True, False):
                machine = ended(tree, NUMBERS, 5, together)
                kept = (machine.answer(), machine.waiting(), machine.beside(), machine.calls_left())
                self.assertIsNotNone(kept[0])
                for _ in range(3):
                    self.assertIs(machine.step(), False)
                    now = (machine.answer(), machine.waiting(), machine.beside(), machine.calls_left())
                    self.assertEqual(now, kept)
                if kept[0][0] == "done":
                    self.assertEqual(kept[1], [])
                if kept[0] == ("spent",):
                    self.assertEqual(kept[3], 0)

    def test_calls_left_behind_the_answer(self):
        for text, calls, left in [
            ("7", 5, 5),
            ("(call (fn x whole x) 1)", 5, 4),
            ("(call (fn x whole x) 1)", 1, 0),
            ("(call (fn x whole x) 1)", 0, 0),
            ("(call (self f x ? ? (if (< x 1) 0 (call f (- x 1)))) 3)", 12, 8),
            ("(call (as (to truth whole) (as ? (fn x whole 1))) yes)", 3, 2),
            ("(call (fn x ? (+ x 1)) yes)", 3, 2),
            ("(call (fn x whole x) (as ? yes))", 3, 3),
        ]:
            for together in (True, False):
                self.assertEqual(ended(read(text), [], calls, together).calls_left(), left, text)

    def test_lists_told_are_new_each_time(self):
        machine = ended(read(f"(as whole (call {LOOP} (as ? 1)))"), [], 1)
        self.assertEqual(len(machine.waiting()), 1)
        self.assertGreater(len(machine.beside()), 0)
        for told in (machine.waiting, machine.beside):
            kept = list(told())
            told().append("more")
            self.assertEqual(told(), kept)
            told().clear()
            self.assertEqual(told(), kept)

    def test_two_machines_by_turns(self):
        trees = TAKEN[::9]
        for tree, other in zip(trees, trees[1:]):
            machines = [Machine(tree, NUMBERS, 6), Machine(other, [1], 3, False), Machine(tree, NUMBERS, 6)]
            for machine in machines * 400:
                machine.step()
            wanted = [ended(tree, NUMBERS, 6), ended(other, [1], 3, False), ended(tree, NUMBERS, 6)]
            for machine, alone in zip(machines, wanted):
                self.assertEqual((machine.answer(), machine.waiting(), machine.beside(), machine.calls_left()),
                                 (alone.answer(), alone.waiting(), alone.beside(), alone.calls_left()))


class WaitingTest(unittest.TestCase):
    def test_behind_spent_what_waited_when_the_call_was_met(self):
        for text, calls, waits in WAITING:
            with self.subTest(text=text, calls=calls):
                machine = ended(read(text), [], calls, False)
                self.assertEqual(machine.answer(), ("spent",))
                self.assertEqual(machine.waiting(), waits)
                machine = ended(read(text), [], calls, True)
                self.assertEqual(machine.answer(), ("spent",))
                self.assertEqual(machine.waiting(), waits if BACK in waits or waits == [] else all_laid(waits))

    def test_looks_behind_a_call_that_does_not_stand_last(self):
        for text, calls, waits, behind in WAITING_BACK:
            with self.subTest(text=text):
                self.assertEqual(ended(read(text), [], calls, False).waiting(), waits + behind)
                wanted = all_laid(behind) if behind else []
                self.assertEqual(ended(read(text), [], calls, True).waiting(), waits + wanted)

    def test_laid_together_by_hand(self):
        for text, calls, waits in [
            (f"(as whole (as ? (as whole (call {LOOP} 1))))", 1, [asked(WHOLE, 3, "in", ())]),
            (f"(as truth (as ? (as whole (call {LOOP} 1))))", 1,
             [("look", ((WHOLE, (3, "in", ())), ("broken", (WHOLE, (2, "in", ())), (TRUTH, (1, "in", ()))), None))]),
            ("(call (self f x ? whole (as whole (as ? (call f x)))) 1)", 9, []),
            ("(call (self f x ? ? (as whole (call f x))) 1)", 9,
             [("look", ((WHOLE, (3, "in", ())), ("same",), (WHOLE, (2, "in", ()))))]),
            ("(as truth (as ? (call (self f x ? whole (as whole (as ? (call f x)))) 1)))", 5,
             [("look", (None, ("broken", (WHOLE, (2, "in", ())), (TRUTH, (1, "in", ()))), None))]),
        ]:
            with self.subTest(text=text):
                self.assertEqual(ended(read(text), [], calls).waiting(), waits)

    def test_at_every_step_laid_together(self):
        looks = 0
        for tree in TAKEN:
            most = allowed(deepest(tree)) if deepest(tree) else 0
            machine = Machine(tree, NUMBERS, 9)
            while machine.step():
                words = [entry[0] for entry in machine.waiting()]
                self.assertNotIn(("look", "look"), list(zip(words, words[1:])))
                for entry in machine.waiting():
                    if entry != BACK:
                        looks += 1
                        self.assertNotEqual(entry[1], STILL)
                        self.assertLessEqual(weight(entry[1]), most)
            for many, body, _ in machine.beside():
                self.assertIn(many, (0, 1))
                self.assertLessEqual(weight((None, body or ("same",), None)), most)
        self.assertGreater(looks, 300)

    def test_a_still_look_is_never_there_apart(self):
        for tree in TAKEN[::2]:
            machine = Machine(tree, NUMBERS, 9, False)
            while machine.step():
                self.assertNotIn(("look", STILL), machine.waiting())

    def test_twelve_calls_that_stand_last(self):
        for text, looks in [
            ("(call (self f x ? ? (as whole (call f x))) 1)", 2),
            ("(call (self f x ? whole (as whole (as ? (call f x)))) 1)", 2),
            ("(call (self f x ? ? (as (to whole ?) (as (to ? truth) (call f x)))) 1)", 3),
            ("(call (self f x ? (to ? ?) (as (to ? whole) (as (to truth ?) (call f x)))) 1)", 3),
            ("(call (self f x ? (pair ? (row ?)) (as (pair (row ?) ?) (as ? (call f x)))) 1)", 3),
            ("(call (self f x ? ? (call (as (to ? whole) f) x)) 1)", 2),
            ("(call (self f x ? ? (if (as ? yes) (as truth (call f x)) (as ? 1))) 1)", 2),
        ]:
            tree = read(text)
            many = {}
            for together in (True, False):
                many[together] = [len(ended(tree, [], calls, together).waiting()) for calls in range(1, 13)]
                self.assertEqual(ended(tree, [], 12, together).answer(), ("spent",))
            with self.subTest(text=text):
                self.assertLessEqual(max(many[True]), 1)
                self.assertEqual([two - one for one, two in zip(many[False], many[False][1:])], [looks] * 11)
                for _, look in ended(tree, [], 12).waiting():
                    self.assertLessEqual(weight(look), allowed(deepest(tree)))


ITEM = ("row", (None, ("same",), (WHOLE, (2, "in", ("item",)))))
ITEM_BACK = ("row", ((WHOLE, (1, "in", ("item",))), ("same",), None))

# (program, the notes laid together, the notes apart where they are other ones)
BESIDE = [
    ("7", [], []),
    ("(row whole 1 2)", [], []),
    ("(as ? 7)", [(0, None, (WHOLE, (1, "in", ())))], None),
    ("(as whole (as ? 7))", [(0, None, (WHOLE, (2, "in", ())))], None),
    ("(as ? (as whole (as ? 7)))", [(0, None, (WHOLE, (3, "in", ()))), (0, None, (WHOLE, (1, "in", ())))], None),
    ("(as ? (row ? 1))", [(0, None, (WHOLE, (2, "in", ()))), (0, None, (ROW, (1, "in", ())))], None),
    # A guard and a tag; a guard laid together with its like goes off, and nothing stands there.
    ("(as (row whole) (as ? (row whole 1)))", [(1, ITEM, (ROW, (2, "in", ())))],
     [(1, ITEM, (ROW, (2, "in", ()))), (2, ITEM_BACK, None), (0, None, (WHOLE, (2, "in", ("item",))))]),
    # The things read for the text, one by one.
    ("(as (row ?) (row whole 1 2))",
     [(1, ("row", (None, ("same",), (WHOLE, (1, "in", ("item",))))), None),
      (0, None, (WHOLE, (1, "in", ("item",)))), (0, None, (WHOLE, (1, "in", ("item",))))], None),
    ("(size (as (row ?) (row whole 1 2)))",
     [(1, ("row", (None, ("same",), (WHOLE, (2, "in", ("item",))))), None)], None),
    ("(as (pair ? whole) (pair 1 2))",
     [(1, ("pair", (None, ("same",), (WHOLE, (1, "in", ("one",)))), STILL), None),
      (0, None, (WHOLE, (1, "in", ("one",))))], None),
    ("(at (as (row ?) (row whole 1)) 0)",
     [(1, ("row", (None, ("same",), (WHOLE, (2, "in", ("item",))))), None),
      (0, None, (WHOLE, (2, "in", ("item",))))], None),
    # At a call: what the argument and the result are given to.
    ("(call (as (to whole ?) (fn x ? yes)) 1)",
     [(1, ("to", (None, ("same",), (WHOLE, (2, "out", ("arg",)))),
           (None, ("same",), (TRUTH, (2, "in", ("res",))))), None),
      (0, None, (WHOLE, (2, "out", ("arg",)))), (0, None, (TRUTH, (2, "in", ("res",))))], None),
    # A look that waits; laid together of two it has an ask and a tag.
    ("(as ? (as whole (call (fn x ? x) 1)))",
     [(0, None, (WHOLE, (5, "in", ()))), (0, None, (WHOLE, (1, "in", ())))], None),
    # Waiting looks that come to still make no note.
    ("(as whole (as ? (call (fn x whole x) 1)))", [], [(0, None, (WHOLE, (2, "in", ())))]),
    # One look with an ask alone leaves the guard there, and makes no note.
    ("(as (row ?) (as ? (row whole)))",
     [(1, ITEM, (ROW, (2, "in", ())))], None),
    # A look with a blame makes none.
    ("(as truth (as ? 7))", [(0, None, (WHOLE, (2, "in", ())))], None),
]


class BesideTest(unittest.TestCase):
    def test_notes_by_hand(self):
        for text, together, apart in BESIDE:
            with self.subTest(text=text):
                self.assertEqual(ended(read(text), [], 9, True).beside(), together)
                self.assertEqual(ended(read(text), [], 9, False).beside(), together if apart is None else apart)

    def test_many_guards_apart(self):
        text = "(as (row ?) (as (row whole) (as (row ?) (as (row whole) (row ?)))))"
        self.assertEqual([note[0] for note in ended(read(text), [], 0, False).beside()], [1, 2, 3, 4])
        self.assertEqual([note[0] for note in ended(read(text), [], 0, True).beside()], [1, 1, 1, 1])

    def test_something_stands_there_in_every_note(self):
        for tree in TAKEN:
            for together in (True, False):
                for many, body, tag in ended(tree, NUMBERS, 12, together).beside():
                    self.assertEqual(many == 0, body is None)
                    self.assertFalse(body is None and tag is None)

    def test_notes_come_one_after_the_other(self):
        for tree in TAKEN[::8]:
            machine = Machine(tree, NUMBERS, 12)
            seen = []
            while machine.step():
                self.assertEqual(machine.beside()[:len(seen)], seen)
                seen = machine.beside()


class ModelTest(unittest.TestCase):
    """The machine beside a run that is told another way."""

    def test_answers_notes_and_what_waits(self):
        spent = 0
        for tree in TAKEN:
            for calls in (0, 1, 2, 3, 5, 12):
                for together in (True, False):
                    machine = ended(tree, NUMBERS, calls, together)
                    model = Model(tree, NUMBERS, calls, together)
                    self.assertEqual(machine.answer(), model.answer, tree)
                    self.assertEqual(machine.beside(), model.notes, tree)
                    self.assertEqual(machine.calls_left(), model.left, tree)
                    if model.answer == ("spent",):
                        spent += model.waits != []
                        self.assertEqual(machine.waiting(), model.waits, tree)
        self.assertGreater(spent, 200)


if __name__ == "__main__":
    unittest.main()
