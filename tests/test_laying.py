"""Looks laid together."""

import itertools
import unittest

from blamewise.kinds import depth
from blamewise.laying import laid
from blamewise.looks import STILL, allowed, height, made, weight
from blamewise.meets import same
from blamewise.texts import read_kind
from tests.counting import Counting
from tests.giving import seen, value_of
from tests.many_kinds import DEEP_KINDS, KINDS_2, PAIR, ROW, TO, TRUTH, UNTOLD, WHOLE, loosenings

SAME = ("same",)

A = (1, "in", ())
B = (2, "out", ("arg",))
C = (3, "in", ("res", "item"))
D = (4, "in", ("one",))


def asking(kind, label, body=SAME):
    return ((kind, label), body, None)


def tagging(kind, label, body=SAME):
    return (None, body, (kind, label))


def around(head, *looks):
    return (None, (head,) + looks, None)


def broken(kind, label, other, other_label):
    return (None, ("broken", (kind, label), (other, other_label)), None)


BROKEN = broken(WHOLE, A, TRUTH, B)
ASKED_BROKEN = ((ROW, D), BROKEN[1], None)

# (the first look, the second one, both laid together), line by line.
LAID = [
    # The first one's body is broken.
    (BROKEN, STILL, BROKEN),
    (BROKEN, asking(WHOLE, C), BROKEN),
    (BROKEN, tagging(WHOLE, C), BROKEN),
    (BROKEN, broken(TRUTH, C, WHOLE, D), BROKEN),
    (BROKEN, around("row", asking(WHOLE, C)), BROKEN),
    (ASKED_BROKEN, asking(WHOLE, C), ASKED_BROKEN),
    # The first has a tag, the second no ask.
    (tagging(WHOLE, A), STILL, tagging(WHOLE, A)),
    (((WHOLE, B), SAME, (WHOLE, A)), STILL, ((WHOLE, B), SAME, (WHOLE, A))),
    (tagging(ROW, A, ("row", tagging(WHOLE, A))), STILL, tagging(ROW, A, ("row", tagging(WHOLE, A)))),
    # The first has a tag, the second asks for the same ground.
    (tagging(WHOLE, A), asking(WHOLE, B), STILL),
    (((WHOLE, C), SAME, (WHOLE, A)), asking(WHOLE, B), asking(WHOLE, C)),
    (tagging(WHOLE, A), ((WHOLE, B), SAME, (WHOLE, C)), tagging(WHOLE, C)),
    (((WHOLE, C), SAME, (WHOLE, A)), ((WHOLE, B), SAME, (WHOLE, D)), ((WHOLE, C), SAME, (WHOLE, D))),
    (tagging(ROW, A, ("row", tagging(WHOLE, A))), asking(ROW, B), around("row", tagging(WHOLE, A))),
    (tagging(ROW, A), asking(ROW, B, ("row", asking(WHOLE, B))), around("row", asking(WHOLE, B))),
    (tagging(ROW, A, ("row", tagging(WHOLE, A))), asking(ROW, B, ("row", asking(WHOLE, B))), STILL),
    (tagging(ROW, A, ("row", tagging(WHOLE, A))), asking(ROW, B, ("row", asking(TRUTH, B))),
     around("row", broken(WHOLE, A, TRUTH, B))),
    # The same with a second look whose body is broken.
    (tagging(ROW, A), asking(ROW, B, BROKEN[1]), BROKEN),
    (((ROW, C), ("row", asking(WHOLE, C)), (ROW, A)), asking(ROW, B, BROKEN[1]), ((ROW, C), BROKEN[1], None)),
    # The first has a tag, the second asks for another ground.
    (tagging(WHOLE, A), asking(TRUTH, B), broken(WHOLE, A, TRUTH, B)),
    (tagging(WHOLE, A), ((TRUTH, B), SAME, (TRUTH, C)), broken(WHOLE, A, TRUTH, B)),
    (((WHOLE, D), SAME, (WHOLE, A)), asking(ROW, B), ((WHOLE, D), ("broken", (WHOLE, A), (ROW, B)), None)),
    (tagging(PAIR, A, ("pair", STILL, tagging(WHOLE, C))), asking(TO, B, ("to", tagging(WHOLE, D), STILL)),
     broken(PAIR, A, TO, B)),
    (tagging(ROW, A), ((TRUTH, B), BROKEN[1], None), broken(ROW, A, TRUTH, B)),
    # The first has no tag, the second an ask: the first is still.
    (STILL, asking(WHOLE, A), asking(WHOLE, A)),
    (STILL, ((ROW, A), ("row", asking(WHOLE, B)), (ROW, C)), ((ROW, A), ("row", asking(WHOLE, B)), (ROW, C))),
    (STILL, ASKED_BROKEN, ASKED_BROKEN),
    # Neither a tag between them nor an ask.
    (STILL, STILL, STILL),
    (STILL, tagging(WHOLE, A), tagging(WHOLE, A)),
    (STILL, BROKEN, BROKEN),
    (asking(WHOLE, A), STILL, asking(WHOLE, A)),
    (asking(WHOLE, A), tagging(WHOLE, B), ((WHOLE, A), SAME, (WHOLE, B))),
    (asking(ROW, A), BROKEN, ((ROW, A), BROKEN[1], None)),
    (asking(ROW, A, ("row", asking(WHOLE, A))), BROKEN, ((ROW, A), BROKEN[1], None)),
    # No laying makes such a second look, but the tag would go off.
    (asking(ROW, A), (None, BROKEN[1], (ROW, B)), ((ROW, A), BROKEN[1], None)),
    (asking(ROW, A, ("row", asking(WHOLE, A))), tagging(ROW, B), ((ROW, A), ("row", asking(WHOLE, A)), (ROW, B))),
    (asking(ROW, A, ("row", asking(WHOLE, A))), tagging(ROW, B, ("row", tagging(WHOLE, B))),
     ((ROW, A), ("row", ((WHOLE, A), SAME, (WHOLE, B))), (ROW, B))),
    # Bodies of looks of both: the first body's first, but of "arg" the second body's.
    (around("pair", tagging(WHOLE, A), STILL), around("pair", STILL, asking(WHOLE, B)),
     around("pair", tagging(WHOLE, A), asking(WHOLE, B))),
    (around("pair", tagging(WHOLE, A), asking(TRUTH, B)), around("pair", asking(ROW, C), tagging(TRUTH, D)),
     around("pair", broken(WHOLE, A, ROW, C), ((TRUTH, B), SAME, (TRUTH, D)))),
    (around("row", tagging(WHOLE, A)), around("row", asking(WHOLE, B)), STILL),
    (around("row", asking(WHOLE, A)), around("row", tagging(WHOLE, B)), around("row", ((WHOLE, A), SAME, (WHOLE, B)))),
    (around("to", asking(WHOLE, A), tagging(TRUTH, B)), around("to", tagging(WHOLE, C), asking(TRUTH, D)), STILL),
    (around("to", asking(WHOLE, A), tagging(TRUTH, B)), around("to", tagging(TRUTH, C), asking(WHOLE, D)),
     around("to", broken(TRUTH, C, WHOLE, A), broken(TRUTH, B, WHOLE, D))),
    (around("to", tagging(WHOLE, A), STILL), around("to", asking(WHOLE, B), STILL),
     around("to", ((WHOLE, B), SAME, (WHOLE, A)), STILL)),
    (around("to", around("to", tagging(WHOLE, A), STILL), STILL),
     around("to", around("to", asking(TRUTH, B), STILL), STILL),
     around("to", around("to", broken(WHOLE, A, TRUTH, B), STILL), STILL)),
    # A broken look within a body breaks only that part.
    (around("pair", BROKEN, tagging(WHOLE, A)), around("pair", asking(WHOLE, B), asking(WHOLE, B)),
     around("pair", BROKEN, STILL)),
    (around("to", tagging(WHOLE, A), tagging(TRUTH, A)), around("to", BROKEN, asking(TRUTH, B)),
     around("to", BROKEN, STILL)),
    # Where the looks within come to still at every depth, nothing is left.
    (around("row", around("row", tagging(WHOLE, A))), around("row", around("row", asking(WHOLE, B))), STILL),
    (around("pair", around("row", tagging(WHOLE, A)), STILL), around("pair", around("row", asking(WHOLE, B)), STILL),
     STILL),
]


UP_TO = {most: [kind for kind in KINDS_2 + DEEP_KINDS if depth(kind) <= most] for most in range(1, 7)}


def next_kind(kind, rule, most):
    """Some kind of at most this depth that is the same but for what is untold."""
    if rule.happens(12):
        return UNTOLD
    if kind == UNTOLD:
        return rule.one_of(UP_TO[max(most, 1)])
    return kind[:1] + tuple([next_kind(part, rule, most - 1) for part in kind[1:]])


def chains(many, length, most, seed):
    """Chains of kinds, each the same as its neighbours but for what is untold."""
    rule = Counting(seed)
    for _ in range(many):
        chain = [next_kind(UNTOLD, rule, most)]
        while len(chain) < length:
            chain.append(next_kind(chain[-1], rule, most))
        yield chain


def looks_along(chain):
    return [made(kind, other, 10 + place) for place, (kind, other) in enumerate(zip(chain, chain[1:]))]


def laid_in_turn(looks):
    found = looks[0]
    for look in looks[1:]:
        found = laid(found, look)
    return found


def every_laying(looks):
    """What comes of all looks, whichever two neighbours come first and next and so on."""
    if len(looks) == 1:
        return {looks[0]}
    found = set()
    for number in range(len(looks) - 1):
        found |= every_laying(looks[:number] + [laid(looks[number], looks[number + 1])] + looks[number + 2:])
    return found


class LaidTest(unittest.TestCase):
    def test_line_by_line(self):
        for one, other, wanted in LAID:
            with self.subTest(one=one, other=other):
                self.assertEqual(laid(one, other), wanted)

    def test_a_broken_body_leaves_no_tag(self):
        for chain in chains(2000, 4, 3, seed=1):
            for look in every_laying(looks_along(chain)):
                self.assert_untagged_where_broken(look)

    def assert_untagged_where_broken(self, look):
        if look[1][0] == "broken":
            self.assertIsNone(look[2])
        else:
            for inner in look[1][1:]:
                self.assert_untagged_where_broken(inner)

    def test_a_whole_between_told_kinds(self):
        kinds = [read_kind(text) for text in ("(to whole ?)", "(to ? truth)", "?", "(to truth (row ?))")]
        self.assertEqual(
            laid_in_turn(looks_along(kinds)),
            (None, ("to",
                    (None, ("broken", (TRUTH, (12, "out", ("arg",))), (WHOLE, (10, "out", ("arg",)))), None),
                    ((TRUTH, (10, "in", ("res",))),
                     ("broken", (TRUTH, (11, "in", ("res",))), (ROW, (12, "in", ("res",)))), None)), None))


class StillTest(unittest.TestCase):
    def test_still_before_and_behind(self):
        for kind, other in itertools.product(KINDS_2, repeat=2):
            if same(kind, other):
                look = made(kind, other, 7)
                self.assertEqual(laid(STILL, look), look)
                self.assertEqual(laid(look, STILL), look)
        for chain in chains(1000, 5, 5, seed=2):
            look = laid_in_turn(looks_along(chain))
            self.assertEqual(laid(STILL, look), look)
            self.assertEqual(laid(look, STILL), look)

    def test_to_a_looser_kind_and_back(self):
        for kind in KINDS_2 + DEEP_KINDS[::3]:
            for other in loosenings(kind)[:20] + loosenings(kind)[-20:]:
                self.assertEqual(laid(made(kind, other, 1), made(other, kind, 2)), STILL)

    def test_to_a_more_told_kind_and_back_keeps_its_asks(self):
        self.assertEqual(laid(made(UNTOLD, WHOLE, 1), made(WHOLE, UNTOLD, 2)),
                         ((WHOLE, (1, "in", ())), SAME, (WHOLE, (2, "in", ()))))


class OrderTest(unittest.TestCase):
    def test_three_looks_between_shallow_kinds(self):
        beside = {kind: [other for other in KINDS_2 if same(kind, other)] for kind in KINDS_2}
        for one in KINDS_2[::2]:
            for two in beside[one]:
                for three in beside[two]:
                    for four in beside[three][::3]:
                        first, second, third = looks_along([one, two, three, four])
                        self.assertEqual(laid(laid(first, second), third), laid(first, laid(second, third)))

    def test_many_looks_of_deep_chains(self):
        for length, most, seed in ((4, 6, 3), (5, 4, 4), (6, 3, 5), (7, 3, 6)):
            for chain in chains(100, length, most, seed):
                self.assertEqual(len(every_laying(looks_along(chain))), 1, chain)

    def test_the_same_whatever_was_laid_ahead(self):
        first = [laid_in_turn(looks_along(chain)) for chain in chains(100, 4, 4, seed=7)]
        again = [laid_in_turn(looks_along(chain)) for chain in chains(100, 4, 4, seed=7)]
        self.assertEqual(first, again)


class WeightTest(unittest.TestCase):
    def test_laying_makes_no_height_greater(self):
        for one, other, _ in LAID:
            self.assertLessEqual(height(laid(one, other)), max(height(one), height(other)))

    def test_no_look_weighs_more_than_its_height_allows(self):
        for chain in chains(1000, 7, 6, seed=8):
            found = STILL
            for look in looks_along(chain):
                both = laid(found, look)
                self.assertLessEqual(height(both), max(height(found), height(look)))
                self.assertLessEqual(height(both), max(depth(kind) for kind in chain))
                self.assertLessEqual(weight(both), allowed(height(both)))
                found = both


class GivenTest(unittest.TestCase):
    """A value given to looks one by one, and to all of them laid together, is seen to be the same."""

    def test_values_given_to_chains_of_looks(self):
        rule = Counting(9)
        blamed = 0
        for length, most, seed in ((3, 3, 10), (4, 4, 11), (6, 3, 12)):
            for chain in chains(1000, length, most, seed):
                looks = looks_along(chain)
                for _ in range(3):
                    value = value_of(chain[0], rule)
                    found = seen(value, looks, chain[-1])
                    self.assertEqual(seen(value, [laid_in_turn(looks)], chain[-1]), found)
                    blamed += "blame" in str(found)
        self.assertGreater(blamed, 2000)


if __name__ == "__main__":
    unittest.main()
