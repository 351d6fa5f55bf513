"""Depth, what is told, grounds, ways and parts of kinds."""

import unittest

from blamewise.errors import BlameError, NoPart
from blamewise.kinds import depth, ground, kinds_in, part, told, with_kinds
from tests.many_kinds import DEEP_KINDS, KINDS_2, KINDS_3, STEPS, TRUTH, UNTOLD, WHOLE, ways_into
from tests.samples import kind_of_depth

TO = ("to", WHOLE, TRUTH)
ROW = ("row", TRUTH)
PAIR = ("pair", ROW, TO)

# (kind, depth, told wholly, ground, parts), for each of the six heads.
SIX = [
    (WHOLE, 1, True, WHOLE, []),
    (TRUTH, 1, True, TRUTH, []),
    (UNTOLD, 1, False, UNTOLD, []),
    (TO, 2, True, ("to", UNTOLD, UNTOLD), [WHOLE, TRUTH]),
    (ROW, 2, True, ("row", UNTOLD), [TRUTH]),
    (PAIR, 3, True, ("pair", UNTOLD, UNTOLD), [ROW, TO]),
]

# The steps that fit each head, with the number of the part to which they lead.
FITTING = {"whole": {}, "truth": {}, "to": {"arg": 1, "res": 2}, "row": {"item": 1}, "pair": {"one": 1, "two": 2}}


class HeadsTest(unittest.TestCase):
    def test_each_of_the_six_heads(self):
        for kind, its_depth, is_told, its_ground, its_parts in SIX:
            with self.subTest(kind=kind):
                self.assertEqual(depth(kind), its_depth)
                self.assertIs(told(kind), is_told)
                self.assertEqual(ground(kind), its_ground)
                self.assertEqual(kinds_in(kind), its_parts)
                self.assertEqual(with_kinds(kind, its_parts), kind)

    def test_depth_counts_the_deepest_part(self):
        for number in range(1, 7):
            self.assertEqual(depth(kind_of_depth(number)), number)
        deep = kind_of_depth(5)
        for kind in (("to", deep, WHOLE), ("to", WHOLE, deep), ("pair", deep, UNTOLD), ("pair", UNTOLD, deep),
                     ("row", deep), ("to", deep, deep), ("pair", kind_of_depth(2), deep)):
            with self.subTest(kind=kind):
                self.assertEqual(depth(kind), 6)

    def test_depth_of_deep_kinds(self):
        for number, kind in enumerate(DEEP_KINDS):
            self.assertEqual(depth(kind), 1 + number // 40)
            self.assertEqual(depth(kind), 1 + max(len(way) for way, _ in ways_into(kind)))

    def test_told_wherever_the_untold_stands(self):
        for kind in KINDS_3 + DEEP_KINDS:
            with self.subTest(kind=kind):
                self.assertIs(told(kind), "?" not in str(kind))
        for inner in (("row", UNTOLD), ("to", WHOLE, UNTOLD), ("to", UNTOLD, WHOLE), ("pair", UNTOLD, WHOLE)):
            for kind in (("row", inner), ("to", inner, WHOLE), ("to", WHOLE, inner), ("pair", WHOLE, inner)):
                self.assertIs(told(kind), False)

    def test_ground_keeps_the_head_alone(self):
        for kind in KINDS_3 + DEEP_KINDS:
            with self.subTest(kind=kind):
                self.assertEqual(ground(kind), kind[:1] + (UNTOLD,) * (len(kind) - 1))
                self.assertEqual(ground(ground(kind)), ground(kind))

    def test_parts_and_other_parts(self):
        for kind in KINDS_3 + DEEP_KINDS:
            with self.subTest(kind=kind):
                self.assertEqual(kinds_in(kind), list(kind[1:]))
                self.assertEqual(with_kinds(kind, kinds_in(kind)), kind)
        deep = kind_of_depth(5)
        self.assertEqual(with_kinds(TO, [deep, UNTOLD]), ("to", deep, UNTOLD))
        self.assertEqual(with_kinds(PAIR, [UNTOLD, deep]), ("pair", UNTOLD, deep))
        self.assertEqual(with_kinds(ROW, [deep]), ("row", deep))
        for leaf in (WHOLE, TRUTH, UNTOLD):
            self.assertEqual(with_kinds(leaf, []), leaf)

    def test_what_is_told_is_of_the_kind_that_the_interface_tells(self):
        for kind in DEEP_KINDS:
            self.assertIs(type(depth(kind)), int)
            self.assertIs(type(ground(kind)), tuple)
            self.assertIs(type(kinds_in(kind)), list)
            self.assertIs(type(with_kinds(kind, kinds_in(kind))), tuple)


class ListsTest(unittest.TestCase):
    def test_lists_told_are_new_each_time(self):
        for kind in KINDS_2 + DEEP_KINDS:
            with self.subTest(kind=kind):
                first = kinds_in(kind)
                first.append("more")
                self.assertEqual(kinds_in(kind), list(kind[1:]))

    def test_lists_handed_in_stay_and_are_not_kept(self):
        for kind in KINDS_2 + DEEP_KINDS:
            with self.subTest(kind=kind):
                some = [("row", ("row", UNTOLD)), WHOLE][:len(kind) - 1]
                handed = list(some)
                new = with_kinds(kind, handed)
                self.assertEqual(handed, some)
                handed.clear()
                handed.append("more")
                self.assertEqual(new, kind[:1] + tuple(some))


class PartTest(unittest.TestCase):
    def refuse(self, kind, way):
        with self.subTest(kind=kind, way=way), self.assertRaises(NoPart) as caught:
            part(kind, way)
        self.assertIsInstance(caught.exception, BlameError)

    def test_the_way_of_no_steps(self):
        for kind in KINDS_3 + DEEP_KINDS:
            self.assertEqual(part(kind, ()), kind)

    def test_each_step_from_each_head(self):
        for kind in [sample[0] for sample in SIX if sample[0] != UNTOLD]:
            for step in STEPS:
                if step in FITTING[kind[0]]:
                    self.assertEqual(part(kind, (step,)), kind[FITTING[kind[0]][step]])
                else:
                    self.refuse(kind, (step,))

    def test_from_the_untold_by_many_steps(self):
        for step in STEPS:
            self.assertEqual(part(UNTOLD, (step,)), UNTOLD)
            for more in STEPS:
                self.assertEqual(part(UNTOLD, (step, more)), UNTOLD)
        self.assertEqual(part(UNTOLD, tuple(STEPS) * 20), UNTOLD)
        self.assertEqual(part(("to", UNTOLD, WHOLE), ("arg", "item", "two", "arg", "res", "one")), UNTOLD)

    def test_all_ways_into_deep_kinds(self):
        for kind in DEEP_KINDS:
            for way, end in ways_into(kind):
                self.assertEqual(part(kind, way), end)

    def test_a_way_behind_which_another_begins(self):
        for kind in DEEP_KINDS:
            for way, end in ways_into(kind):
                for step in STEPS:
                    if end == UNTOLD:
                        self.assertEqual(part(kind, way + (step,)), UNTOLD)
                    elif step not in FITTING[end[0]]:
                        self.refuse(kind, way + (step,))
                        for more in STEPS:
                            self.refuse(kind, way + (step, more))

    def test_a_step_that_no_kind_has(self):
        for kind in (WHOLE, TRUTH, TO, ROW, PAIR):
            self.refuse(kind, ("left",))
            self.refuse(kind, (kind[0],))
            self.refuse(kind, ("",))

    def test_refused_whatever_was_asked_ahead(self):
        for _ in range(3):
            self.refuse(TO, ("item",))
            self.assertEqual(part(TO, ("res",)), TRUTH)
            self.refuse(WHOLE, ("arg",))
            self.assertEqual(part(UNTOLD, ("arg",)), UNTOLD)


if __name__ == "__main__":
    unittest.main()
