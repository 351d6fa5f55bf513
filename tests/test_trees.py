"""Parts, written kinds, places, nest and free names."""

import unittest

from blamewise.errors import BlameError, NoName
from blamewise.trees import need_names, nest, parts, places, with_parts, with_written, written
from tests.samples import LOOKS, NODES, TO, UNTOLD, WHOLE

SEVENTEEN = ["whole", "truth", "given", "name", "fn", "self", "call", "let", "if", "do", "row", "at",
             "size", "pair", "one", "two", "as"]


def others(number):
    """This many nodes that no sample holds."""
    return [("whole", 100 + k, k) for k in range(number)]


class PartsTest(unittest.TestCase):
    def test_the_samples_have_every_word(self):
        self.assertEqual(sorted({sample[0][0] for sample in NODES}), sorted(SEVENTEEN))

    def test_parts_and_written_kinds_of_every_word(self):
        for node, its_parts, its_kinds, _ in NODES:
            with self.subTest(node=node):
                self.assertEqual(parts(node), its_parts)
                self.assertEqual(written(node), its_kinds)

    def test_parts_of_looks_and_no_written_kinds(self):
        for look in LOOKS:
            with self.subTest(look=look):
                self.assertEqual(parts(look), [look[4]])
                self.assertEqual(written(look), [])

    def test_parts_of_a_program_made_ready(self):
        tree = ("row", 0, UNTOLD, (LOOKS[0], ("whole", 5, 1)))
        self.assertEqual(parts(tree), [LOOKS[0], ("whole", 5, 1)])
        self.assertEqual(written(tree), [UNTOLD])
        self.assertEqual(with_parts(tree, [("whole", 5, 1), LOOKS[1]]),
                         ("row", 0, UNTOLD, (("whole", 5, 1), LOOKS[1])))

    def test_the_lists_told_are_new_each_time(self):
        for node in [sample[0] for sample in NODES] + LOOKS:
            for asked in (parts, written, places):
                with self.subTest(node=node, asked=asked):
                    first = asked(node)
                    self.assertIs(type(first), list)
                    kept = list(first)
                    first.append("more")
                    self.assertEqual(asked(node), kept)


class WithPartsTest(unittest.TestCase):
    def test_other_parts_at_every_word(self):
        for node, its_parts, its_kinds, _ in NODES:
            with self.subTest(node=node):
                some = others(len(its_parts))
                new = with_parts(node, some)
                self.assertIs(type(new), tuple)
                self.assertEqual(new[:2], node[:2])
                self.assertEqual(parts(new), some)
                self.assertEqual(written(new), its_kinds)
                self.assertEqual(with_parts(new, its_parts), node)

    def test_other_parts_as_they_stand(self):
        first, second, third = others(3)
        for node, new in [
            (("fn", 9, "x", TO, ("whole", 1, 7)), ("fn", 9, "x", TO, first)),
            (("self", 9, "f", "x", TO, WHOLE, ("whole", 1, 7)), ("self", 9, "f", "x", TO, WHOLE, first)),
            (("let", 9, "x", second, second), ("let", 9, "x", first, second)),
            (("if", 9, third, third, third), ("if", 9, first, second, third)),
            (("do", 9, "-", second, first), ("do", 9, "-", first, second)),
            (("row", 9, TO, (second, first)), ("row", 9, TO, (first, second))),
            (("look", 9, TO, WHOLE, third), ("look", 9, TO, WHOLE, first)),
        ]:
            with self.subTest(node=node):
                self.assertEqual(with_parts(node, [first, second, third][:len(parts(node))]), new)

    def test_other_written_kinds_at_every_word(self):
        for node, its_parts, its_kinds, _ in NODES:
            with self.subTest(node=node):
                some = [("row", ("row", UNTOLD)), ("pair", WHOLE, WHOLE)][:len(its_kinds)]
                new = with_written(node, some)
                self.assertIs(type(new), tuple)
                self.assertEqual(new[:2], node[:2])
                self.assertEqual(written(new), some)
                self.assertEqual(parts(new), its_parts)
                self.assertEqual(with_written(new, its_kinds), node)

    def test_other_written_kinds_as_they_stand(self):
        leaf = ("name", 1, "x")
        self.assertEqual(with_written(("self", 9, "f", "x", TO, TO, leaf), [WHOLE, UNTOLD]),
                         ("self", 9, "f", "x", WHOLE, UNTOLD, leaf))
        self.assertEqual(with_written(("fn", 9, "x", TO, leaf), [WHOLE]), ("fn", 9, "x", WHOLE, leaf))

    def test_lists_handed_in_stay_and_are_not_kept(self):
        for node, its_parts, its_kinds, _ in NODES:
            for change, some in ((with_parts, others(len(its_parts))), (with_written, [TO, TO][:len(its_kinds)])):
                with self.subTest(node=node, change=change):
                    handed = list(some)
                    new = change(node, handed)
                    self.assertEqual(handed, some)
                    handed.clear()
                    self.assertEqual(new, change(node, some))


class PlacesTest(unittest.TestCase):
    def test_a_node_then_all_of_its_parts_one_by_one(self):
        tree = ("if", 40,
                ("do", 9999, "<", ("given", 3, 0), ("given", 2, 1)),
                ("let", 7, "x", ("whole", 30, 1), ("name", 0, "x")),
                ("row", 12, UNTOLD, (("size", 50, ("row", 5, WHOLE, ())), ("truth", 4, True))))
        self.assertEqual(places(tree), [40, 9999, 3, 2, 7, 30, 0, 12, 50, 5, 4])

    def test_places_of_every_word(self):
        for node, its_parts, _, _ in NODES:
            with self.subTest(node=node):
                self.assertEqual(places(node), [9] + [part[1] for part in its_parts])


class NestTest(unittest.TestCase):
    def test_nest_of_every_word(self):
        for node, its_parts, _, _ in NODES:
            with self.subTest(node=node):
                self.assertEqual(nest(node), 2 if its_parts else 1)

    def test_nest_of_deeper_nodes(self):
        leaf = ("whole", 0, 1)
        deep = ("size", 1, ("size", 2, leaf))
        self.assertEqual(nest(deep), 3)
        self.assertEqual(nest(("pair", 3, deep, leaf)), 4)
        self.assertEqual(nest(("pair", 3, leaf, deep)), 4)
        self.assertEqual(nest(("if", 3, leaf, deep, leaf)), 4)
        self.assertEqual(nest(("row", 3, UNTOLD, (leaf, ("row", 4, UNTOLD, ()), deep))), 4)


def name(place, text):
    return ("name", place, text)


class NeedNamesTest(unittest.TestCase):
    def assert_bound(self, tree):
        self.assertIsNone(need_names(tree))

    def assert_free(self, tree, place):
        with self.assertRaises(NoName) as caught:
            need_names(tree)
        self.assertEqual(caught.exception.place, place)
        self.assertIsInstance(caught.exception, BlameError)

    def test_no_name_at_all(self):
        self.assert_bound(("do", 0, "+", ("whole", 1, 1), ("given", 2, 0)))
        self.assert_bound(("row", 0, UNTOLD, ()))

    def test_a_name_alone_is_free(self):
        self.assert_free(name(0, "x"), 0)
        self.assert_free(name(9999, "x"), 9999)

    def test_the_first_free_one_in_order_counts(self):
        self.assert_free(("pair", 5, ("size", 4, name(3, "x")), name(1, "y")), 3)
        self.assert_free(("if", 5, ("truth", 9, True), name(7, "x"), name(0, "y")), 7)
        self.assert_free(("row", 5, UNTOLD, (("whole", 6, 1), name(0, "x"), name(1, "x"))), 0)

    def test_let_binds_in_its_second_part_alone(self):
        self.assert_bound(("let", 0, "x", ("whole", 1, 1), name(2, "x")))
        self.assert_free(("let", 0, "x", name(1, "x"), name(2, "x")), 1)
        self.assert_free(("let", 0, "x", ("whole", 1, 1), name(2, "y")), 2)
        self.assert_bound(("let", 0, "x", ("whole", 1, 1), ("let", 2, "x", name(3, "x"), name(4, "x"))))

    def test_fn_binds_its_name(self):
        self.assert_bound(("fn", 0, "x", UNTOLD, name(1, "x")))
        self.assert_free(("fn", 0, "x", UNTOLD, name(1, "y")), 1)

    def test_self_binds_both_names(self):
        body = ("call", 1, name(2, "f"), name(3, "x"))
        self.assert_bound(("self", 0, "f", "x", UNTOLD, UNTOLD, body))
        self.assert_free(("self", 0, "g", "x", UNTOLD, UNTOLD, body), 2)
        self.assert_free(("self", 0, "f", "y", UNTOLD, UNTOLD, body), 3)

    def test_self_with_both_names_alike(self):
        self.assert_bound(("self", 0, "x", "x", UNTOLD, UNTOLD, name(1, "x")))
        self.assert_free(("self", 0, "x", "x", UNTOLD, UNTOLD, name(1, "f")), 1)

    def test_a_name_bound_in_one_part_is_free_in_its_neighbour(self):
        for binder in (("fn", 1, "x", UNTOLD, name(2, "x")),
                       ("self", 1, "x", "y", UNTOLD, UNTOLD, name(2, "x")),
                       ("let", 1, "x", ("whole", 3, 1), name(2, "x"))):
            with self.subTest(binder=binder):
                self.assert_free(("pair", 0, binder, name(4, "x")), 4)
                self.assert_free(("pair", 0, name(4, "x"), binder), 4)

    def test_outer_names_hold_in_inner_parts(self):
        self.assert_bound(("fn", 0, "x", UNTOLD, ("fn", 1, "y", UNTOLD, ("pair", 2, name(3, "x"), name(4, "y")))))
        self.assert_bound(("fn", 0, "x", UNTOLD, ("as", 1, WHOLE, ("one", 2, ("row", 3, WHOLE, (name(4, "x"),))))))

    def test_one_name_within_another_is_another(self):
        self.assert_free(("fn", 0, "xy", UNTOLD, name(1, "x")), 1)

    def test_asked_twice_it_tells_the_same(self):
        tree = ("let", 0, "x", name(1, "x"), name(2, "x"))
        self.assert_free(tree, 1)
        self.assert_bound(("fn", 3, "x", UNTOLD, tree))
        self.assert_free(tree, 1)


if __name__ == "__main__":
    unittest.main()
