"""Looks made from one kind to another; their weight and height, and what a depth allows."""

import itertools
import unittest

from blamewise.kinds import depth, ground
from blamewise.looks import STILL, allowed, height, made, weight
from blamewise.meets import same
from blamewise.texts import read_kind
from tests.many_kinds import DEEP_KINDS, KINDS_2, KINDS_3, TRUTH, UNTOLD, WHOLE, loosenings

SAME = ("same",)
TO = ("to", UNTOLD, UNTOLD)
ROW = ("row", UNTOLD)
PAIR = ("pair", UNTOLD, UNTOLD)
GROUNDS = [WHOLE, TRUTH, TO, ROW, PAIR]

FITTING = [(kind, other) for kind, other in itertools.product(KINDS_2, repeat=2) if same(kind, other)]
FITTING += [pair for pair in itertools.islice(itertools.product(KINDS_3, repeat=2), 0, None, 83) if same(*pair)]
FITTING += [(kind, other) for kind in DEEP_KINDS[::5] for other in loosenings(kind)[:12]]
FITTING += [(other, kind) for kind in DEEP_KINDS[::7] for other in loosenings(kind)[-12:]]


def asking(kind, *label):
    return ((kind, label), SAME, None)


def tagging(kind, *label):
    return (None, SAME, (kind, label))


def around(head, *looks):
    """A look that has nothing but these looks within its body."""
    return (None, (head,) + looks, None)


# (from, to, the look at place 5)
MADE = [
    # Both told, with all that is untold in the one told in the other, or not.
    ("(row whole)", "(row ?)", around("row", tagging(WHOLE, 5, "in", ("item",)))),
    ("(row ?)", "(row whole)", around("row", asking(WHOLE, 5, "in", ("item",)))),
    ("(pair whole ?)", "(pair ? truth)",
     around("pair", tagging(WHOLE, 5, "in", ("one",)), asking(TRUTH, 5, "in", ("two",)))),
    ("(pair whole ?)", "(pair whole truth)", around("pair", STILL, asking(TRUTH, 5, "in", ("two",)))),
    ("(pair ? whole)", "(pair truth whole)", around("pair", asking(TRUTH, 5, "in", ("one",)), STILL)),
    # An argument goes the other way, on the other side.
    ("(to whole truth)", "(to ? ?)",
     around("to", asking(WHOLE, 5, "out", ("arg",)), tagging(TRUTH, 5, "in", ("res",)))),
    ("(to ? ?)", "(to whole truth)",
     around("to", tagging(WHOLE, 5, "out", ("arg",)), asking(TRUTH, 5, "in", ("res",)))),
    ("(to whole ?)", "(to whole whole)", around("to", STILL, asking(WHOLE, 5, "in", ("res",)))),
    ("(to whole whole)", "(to ? whole)", around("to", asking(WHOLE, 5, "out", ("arg",)), STILL)),
    # Within an argument's argument it is the first side again, and so on.
    ("(to (to whole ?) ?)", "(to (to ? ?) ?)",
     around("to", around("to", tagging(WHOLE, 5, "in", ("arg", "arg")), STILL), STILL)),
    ("(to (to ? whole) ?)", "(to (to ? ?) ?)",
     around("to", around("to", STILL, asking(WHOLE, 5, "out", ("arg", "res"))), STILL)),
    ("(to ? (to whole ?))", "(to ? (to ? ?))",
     around("to", STILL, around("to", asking(WHOLE, 5, "out", ("res", "arg")), STILL))),
    ("(to (to (to whole ?) ?) ?)", "(to (to (to ? ?) ?) ?)",
     around("to", around("to", around("to", asking(WHOLE, 5, "out", ("arg", "arg", "arg")), STILL), STILL), STILL)),
    ("(pair (row (to (row truth) ?)) ?)", "(pair (row (to (row ?) ?)) ?)",
     around("pair", around("row", around("to", around(
         "row", asking(TRUTH, 5, "out", ("one", "item", "arg", "item"))), STILL)), STILL)),
    # A body all of whose looks are still is the same, and so is the one round it.
    ("(pair (row whole) ?)", "(pair (row whole) whole)", around("pair", STILL, asking(WHOLE, 5, "in", ("two",)))),
    ("(to (row ?) (pair ? whole))", "(to (row ?) (pair ? whole))", STILL),
    # From the untold to a kind that is told beneath its head, and back.
    ("?", "(row whole)",
     ((ROW, (5, "in", ())), ("row", asking(WHOLE, 5, "in", ("item",))), None)),
    ("(row whole)", "?",
     (None, ("row", tagging(WHOLE, 5, "in", ("item",))), (ROW, (5, "in", ())))),
    ("?", "(to whole (row truth))",
     ((TO, (5, "in", ())),
      ("to", tagging(WHOLE, 5, "out", ("arg",)),
       ((ROW, (5, "in", ("res",))), ("row", asking(TRUTH, 5, "in", ("res", "item"))), None)), None)),
    ("(to whole (row truth))", "?",
     (None, ("to", asking(WHOLE, 5, "out", ("arg",)),
             (None, ("row", tagging(TRUTH, 5, "in", ("res", "item"))), (ROW, (5, "in", ("res",))))),
      (TO, (5, "in", ())))),
    ("?", "(pair ? truth)", ((PAIR, (5, "in", ())), ("pair", STILL, asking(TRUTH, 5, "in", ("two",))), None)),
    ("(row (pair whole ?))", "(row ?)",
     around("row", (None, ("pair", tagging(WHOLE, 5, "in", ("item", "one")), STILL), (PAIR, (5, "in", ("item",)))))),
    ("(to (to whole truth) ?)", "(to ? ?)",
     around("to", ((TO, (5, "out", ("arg",))),
                   ("to", tagging(WHOLE, 5, "in", ("arg", "arg")), asking(TRUTH, 5, "out", ("arg", "res"))),
                   None), STILL)),
]


class MadeTest(unittest.TestCase):
    def test_still(self):
        self.assertEqual(STILL, (None, SAME, None))
        for kind in (WHOLE, TRUTH, UNTOLD):
            self.assertEqual(made(kind, kind, 3), STILL)
        for kind in KINDS_3 + DEEP_KINDS:
            self.assertEqual(made(kind, kind, 3), STILL)

    def test_between_the_untold_and_each_head(self):
        for kind in GROUNDS:
            for place in (0, 7, 9999):
                self.assertEqual(made(UNTOLD, kind, place), asking(kind, place, "in", ()))
                self.assertEqual(made(kind, UNTOLD, place), tagging(kind, place, "in", ()))

    def test_made_as_it_stands(self):
        for kind, other, look in MADE:
            with self.subTest(kind=kind, other=other):
                self.assertEqual(made(read_kind(kind), read_kind(other), 5), look)

    def test_a_step_further_for_each_kind_round_it(self):
        # Six deep: each step stands in the way, and each "arg" turns the side and what is asked.
        for steps in itertools.product(["arg", "res", "item", "one", "two"], repeat=5):
            if len(set(steps)) < 4:
                kind, other = wrapped(WHOLE, steps), wrapped(UNTOLD, steps)
                turned = steps.count("arg") % 2 == 1
                label = (9, "out" if turned else "in", steps)
                inner = asking(WHOLE, *label) if turned else tagging(WHOLE, *label)
                self.assertEqual(innermost(made(kind, other, 9), steps), inner)
                inner = tagging(WHOLE, *label) if turned else asking(WHOLE, *label)
                self.assertEqual(innermost(made(other, kind, 9), steps), inner)

    def test_the_way_back_has_asks_and_tags_changed_over(self):
        for kind, other in FITTING:
            self.assertEqual(changed_over(made(kind, other, 4)), made(other, kind, 4))

    def test_asks_and_tags_stand_by_the_kinds(self):
        for kind, other in FITTING:
            look = made(kind, other, 9999)
            asks = kind == UNTOLD and other != UNTOLD
            tags = other == UNTOLD and kind != UNTOLD
            self.assertEqual(look[0], (ground(other), (9999, "in", ())) if asks else None)
            self.assertEqual(look[2], (ground(kind), (9999, "in", ())) if tags else None)

    def test_places(self):
        for place in (0, 9999):
            look = made(("to", WHOLE, ("row", UNTOLD)), ("to", UNTOLD, ("row", TRUTH)), place)
            self.assertEqual(look, around("to", asking(WHOLE, place, "out", ("arg",)),
                                          around("row", asking(TRUTH, place, "in", ("res", "item")))))

    def test_the_same_look_each_time(self):
        first = [made(kind, other, 1) for kind, other in FITTING[:300]]
        self.assertEqual([made(kind, other, 1) for kind, other in FITTING[:300]], first)


def wrapped(kind, steps):
    """A kind with this one at the end of the steps, and whole or truth elsewhere."""
    for step in reversed(steps):
        kind = {"arg": ("to", kind, TRUTH), "res": ("to", WHOLE, kind), "item": ("row", kind),
                "one": ("pair", kind, WHOLE), "two": ("pair", TRUTH, kind)}[step]
    return kind


def innermost(look, steps):
    """The look at the end of the steps; all others on the way must be still but for it."""
    for step in steps:
        assert look[0] is None and look[2] is None
        number = {"arg": 1, "res": 2, "item": 1, "one": 1, "two": 2}[step]
        assert [inner for inner in look[1][1:] if inner != STILL] == [look[1][number]]
        look = look[1][number]
    return look


def changed_over(look):
    return (look[2], look[1][:1] + tuple([changed_over(inner) for inner in look[1][1:]]), look[0])


BROKEN = ("broken", (WHOLE, (1, "in", ())), (TRUTH, (2, "out", ("arg",))))
ASK = (ROW, (3, "in", ()))
TAG = (PAIR, (4, "in", ("res",)))

# (look, weight, height)
WEIGHED = [
    (STILL, 0, 1),
    ((ASK, SAME, None), 1, 1),
    ((None, SAME, TAG), 1, 1),
    ((ASK, SAME, TAG), 2, 1),
    ((None, BROKEN, None), 1, 1),
    ((ASK, BROKEN, None), 2, 1),
    (around("row", (ASK, SAME, TAG)), 2, 2),
    (around("row", (None, BROKEN, None)), 1, 2),
    ((ASK, ("row", (ASK, BROKEN, None)), TAG), 4, 2),
    (around("pair", STILL, (ASK, SAME, TAG)), 2, 2),
    (around("pair", (ASK, SAME, TAG), (ASK, BROKEN, None)), 4, 2),
    ((ASK, ("to", (ASK, SAME, TAG), (ASK, SAME, TAG)), TAG), 6, 2),
    ((ASK, ("to", (ASK, SAME, None), around("row", around("row", (None, SAME, TAG)))), None), 3, 4),
    (around("to", around("row", around("row", (None, SAME, TAG))), (ASK, SAME, None)), 2, 4),
]


class WeightTest(unittest.TestCase):
    def test_weight_and_height_of_each_form(self):
        for look, its_weight, its_height in WEIGHED:
            with self.subTest(look=look):
                self.assertEqual(weight(look), its_weight)
                self.assertEqual(height(look), its_height)

    def test_what_a_depth_allows(self):
        self.assertEqual([allowed(number) for number in range(1, 8)], [2, 6, 14, 30, 62, 126, 254])
        for number in range(2, 61):
            self.assertEqual(allowed(number), 2 * allowed(number - 1) + 2)
        self.assertEqual(allowed(60), 2 ** 61 - 2)
        self.assertEqual(allowed(2000), 2 ** 2001 - 2)

    def test_the_heaviest_look_of_a_height(self):
        look = (ASK, SAME, TAG)
        for number in range(1, 7):
            self.assertEqual((height(look), weight(look)), (number, allowed(number)))
            look = (ASK, ("to", look, look), TAG)

    def test_made_looks_are_no_higher_than_the_kinds_are_deep(self):
        for kind, other in FITTING:
            look = made(kind, other, 1)
            self.assertLessEqual(height(look), max(depth(kind), depth(other)))
            self.assertLessEqual(weight(look), allowed(height(look)))

    def test_whole_numbers(self):
        for number in (weight(STILL), height(STILL), allowed(1), weight(WEIGHED[-1][0])):
            self.assertIs(type(number), int)


if __name__ == "__main__":
    unittest.main()
