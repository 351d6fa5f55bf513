"""Kinds that are the same but for what is untold, and others; meets and joins."""

import itertools
import unittest

from blamewise.kinds import depth
from blamewise.meets import join, looser, meet, parting, same
from tests.many_kinds import (DEEP_KINDS, KINDS_2, KINDS_3, TRUTH, UNTOLD, WHOLE, first_parting, loosenings)

PAIRS_2 = list(itertools.product(KINDS_2, repeat=2))
# Every 97th pair, so that the pairs are many and of all sorts, and still soon gone through.
PAIRS_3 = list(itertools.islice(itertools.product(KINDS_3, repeat=2), 0, None, 97))
PAIRS_DEEP = list(itertools.product(DEEP_KINDS[::3], repeat=2))

BOTH_HEADS = ["to", "pair"]
STEPS_OF = {"to": ("arg", "res"), "pair": ("one", "two")}


class PartingTest(unittest.TestCase):
    def assert_parting(self, kind, other, way):
        for one, two in ((kind, other), (other, kind)):
            with self.subTest(one=one, two=two):
                self.assertEqual(parting(one, two), way)
                self.assertIs(same(one, two), way is None)

    def test_unlike_heads_part_at_once(self):
        heads = [WHOLE, TRUTH, ("to", WHOLE, WHOLE), ("row", WHOLE), ("pair", WHOLE, WHOLE)]
        for kind, other in itertools.combinations(heads, 2):
            self.assert_parting(kind, other, ())

    def test_equal_kinds_do_not_part(self):
        for kind in KINDS_3 + DEEP_KINDS:
            self.assert_parting(kind, kind, None)

    def test_the_untold_parts_from_nothing(self):
        for kind in KINDS_3 + DEEP_KINDS:
            self.assert_parting(kind, UNTOLD, None)

    def test_in_the_first_part_in_the_second_in_both(self):
        for head in BOTH_HEADS:
            first, second = STEPS_OF[head]
            self.assert_parting((head, WHOLE, WHOLE), (head, TRUTH, WHOLE), (first,))
            self.assert_parting((head, WHOLE, WHOLE), (head, WHOLE, TRUTH), (second,))
            self.assert_parting((head, WHOLE, WHOLE), (head, TRUTH, TRUTH), (first,))
            self.assert_parting((head, UNTOLD, WHOLE), (head, TRUTH, TRUTH), (second,))
            self.assert_parting((head, UNTOLD, WHOLE), (head, TRUTH, UNTOLD), None)
        self.assert_parting(("row", WHOLE), ("row", TRUTH), ("item",))
        self.assert_parting(("row", WHOLE), ("row", UNTOLD), None)

    def test_deep_within(self):
        kind = ("to", ("pair", WHOLE, ("row", ("to", TRUTH, UNTOLD))), WHOLE)
        self.assert_parting(kind, ("to", ("pair", UNTOLD, ("row", ("to", WHOLE, WHOLE))), TRUTH),
                            ("arg", "two", "item", "arg"))
        self.assert_parting(kind, ("to", ("pair", UNTOLD, ("row", ("to", UNTOLD, WHOLE))), TRUTH), ("res",))
        self.assert_parting(kind, ("to", ("pair", WHOLE, ("row", ("row", UNTOLD))), WHOLE), ("arg", "two", "item"))
        self.assert_parting(kind, ("to", ("pair", ("row", WHOLE), ("row", WHOLE)), TRUTH), ("arg", "one"))

    def test_deep_in_the_first_part_goes_ahead_of_the_second_at_once(self):
        self.assert_parting(("pair", ("row", ("row", WHOLE)), WHOLE), ("pair", ("row", ("row", TRUTH)), TRUTH),
                            ("one", "item", "item"))

    def test_as_the_words_of_the_document_go(self):
        for kind, other in PAIRS_2 + PAIRS_3 + PAIRS_DEEP:
            way = first_parting(kind, other)
            self.assertEqual(parting(kind, other), way)
            self.assertIs(same(kind, other), way is None)

    def test_a_way_is_a_tuple(self):
        self.assertIs(type(parting(("row", WHOLE), ("row", TRUTH))), tuple)
        self.assertIs(type(parting(WHOLE, TRUTH)), tuple)


class LooserTest(unittest.TestCase):
    def test_equal_kinds(self):
        for kind in KINDS_3 + DEEP_KINDS:
            self.assertIs(looser(kind, kind), True)

    def test_the_untold_and_each_kind(self):
        for kind in KINDS_3 + DEEP_KINDS:
            self.assertIs(looser(kind, UNTOLD), True)
            self.assertIs(looser(UNTOLD, kind), kind == UNTOLD)

    def test_looser_in_one_part_and_more_told_in_another(self):
        for head in BOTH_HEADS:
            kind = (head, WHOLE, UNTOLD)
            other = (head, UNTOLD, WHOLE)
            self.assertIs(looser(kind, other), False)
            self.assertIs(looser(other, kind), False)
            self.assertIs(looser((head, WHOLE, WHOLE), other), True)
            self.assertIs(looser((head, WHOLE, WHOLE), kind), True)
            self.assertIs(looser(kind, (head, WHOLE, WHOLE)), False)

    def test_kinds_that_part(self):
        self.assertIs(looser(WHOLE, TRUTH), False)
        self.assertIs(looser(("row", WHOLE), ("row", TRUTH)), False)
        self.assertIs(looser(("to", WHOLE, TRUTH), ("pair", WHOLE, TRUTH)), False)
        self.assertIs(looser(("pair", WHOLE, WHOLE), ("pair", UNTOLD, TRUTH)), False)

    def test_as_the_words_of_the_document_go(self):
        made = {kind: set(loosenings(kind)) for kind in KINDS_2 + DEEP_KINDS[::3][:40]}
        for kind, its_loosenings in made.items():
            for other in made:
                self.assertIs(looser(kind, other), other in its_loosenings)
            for other in list(its_loosenings)[:50]:
                self.assertIs(looser(kind, other), True)


class MeetTest(unittest.TestCase):
    def assert_meet(self, kind, other, wanted):
        self.assertEqual(meet(kind, other), wanted)
        self.assertEqual(meet(other, kind), wanted)

    def test_what_one_tells_alone(self):
        for kind in KINDS_3 + DEEP_KINDS:
            self.assert_meet(kind, UNTOLD, kind)
            self.assert_meet(kind, kind, kind)
        self.assert_meet(("to", WHOLE, UNTOLD), ("to", UNTOLD, UNTOLD), ("to", WHOLE, UNTOLD))

    def test_what_both_tell(self):
        self.assert_meet(("to", WHOLE, UNTOLD), ("to", UNTOLD, TRUTH), ("to", WHOLE, TRUTH))
        self.assert_meet(("pair", ("row", UNTOLD), ("to", WHOLE, UNTOLD)), ("pair", ("row", TRUTH), UNTOLD),
                         ("pair", ("row", TRUTH), ("to", WHOLE, UNTOLD)))
        self.assert_meet(("row", ("row", UNTOLD)), ("row", ("row", ("pair", UNTOLD, WHOLE))),
                         ("row", ("row", ("pair", UNTOLD, WHOLE))))

    def test_kinds_that_part(self):
        self.assert_meet(WHOLE, TRUTH, None)
        self.assert_meet(("row", WHOLE), WHOLE, None)
        self.assert_meet(("to", WHOLE, UNTOLD), ("to", TRUTH, UNTOLD), None)
        self.assert_meet(("pair", UNTOLD, ("row", WHOLE)), ("pair", WHOLE, ("row", TRUTH)), None)

    def test_the_loosest_kind_of_which_both_are_looser(self):
        loosened = {kind: set(loosenings(kind)) for kind in KINDS_2}
        for kind, other in PAIRS_2:
            above = [more for more in KINDS_2 if kind in loosened[more] and other in loosened[more]]
            found = meet(kind, other)
            if first_parting(kind, other) is not None:
                self.assertIsNone(found)
                self.assertEqual(above, [])
            else:
                self.assertIn(found, above)
                self.assertTrue(all(found in loosened[more] for more in above))

    def test_deep_kinds(self):
        for kind, other in PAIRS_3 + PAIRS_DEEP:
            found = meet(kind, other)
            self.assertIs(found is None, not same(kind, other))
            if found is not None:
                self.assertTrue(looser(found, kind) and looser(found, other))
                self.assertEqual(depth(found), max(depth(kind), depth(other)))


class JoinTest(unittest.TestCase):
    def assert_join(self, kind, other, wanted):
        self.assertEqual(join(kind, other), wanted)
        self.assertEqual(join(other, kind), wanted)

    def test_unlike_heads(self):
        heads = [WHOLE, TRUTH, UNTOLD, ("to", WHOLE, WHOLE), ("row", WHOLE), ("pair", WHOLE, WHOLE)]
        for kind, other in itertools.combinations(heads, 2):
            self.assert_join(kind, other, UNTOLD)

    def test_like_heads(self):
        self.assert_join(("to", WHOLE, TRUTH), ("to", WHOLE, WHOLE), ("to", WHOLE, UNTOLD))
        self.assert_join(("to", WHOLE, UNTOLD), ("to", UNTOLD, TRUTH), ("to", UNTOLD, UNTOLD))
        self.assert_join(("row", ("row", WHOLE)), ("row", ("row", TRUTH)), ("row", ("row", UNTOLD)))
        self.assert_join(("pair", ("row", WHOLE), TRUTH), ("pair", WHOLE, TRUTH), ("pair", UNTOLD, TRUTH))

    def test_the_untold_and_equal_kinds(self):
        for kind in KINDS_3 + DEEP_KINDS:
            self.assert_join(kind, UNTOLD, UNTOLD)
            self.assert_join(kind, kind, kind)

    def test_the_most_told_kind_that_is_looser_than_both(self):
        loosened = {kind: set(loosenings(kind)) for kind in KINDS_2}
        for kind, other in PAIRS_2:
            below = loosened[kind] & loosened[other]
            found = join(kind, other)
            self.assertIn(found, below)
            self.assertLessEqual(below, loosened[found])

    def test_of_three_whichever_two_come_first(self):
        for one, two in PAIRS_3[::11]:
            for three in (("to", ("row", WHOLE), UNTOLD), ("pair", ("to", WHOLE, UNTOLD), ("row", TRUTH)), one):
                found = join(join(one, two), three)
                self.assertEqual(found, join(one, join(two, three)))
                self.assertEqual(found, join(join(one, three), two))
        for one, two, three in itertools.product(KINDS_2[::2], repeat=3):
            self.assertEqual(join(join(one, two), three), join(one, join(two, three)))


class AgainTest(unittest.TestCase):
    def test_the_same_answer_whatever_was_asked_ahead(self):
        asked = (same, parting, looser, meet, join)
        first = [ask(kind, other) for kind, other in PAIRS_2 for ask in asked]
        again = [ask(kind, other) for kind, other in PAIRS_2 for ask in asked]
        self.assertEqual(first, again)


if __name__ == "__main__":
    unittest.main()
