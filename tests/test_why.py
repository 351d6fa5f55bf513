"""Who is to blame: roads of labels, and programs softened."""

import unittest

from blamewise.errors import NoLook, NoName, NoPart, Parted, TooDeep
from blamewise.kinds import ground
from blamewise.looker import looked
from blamewise.ready import looks_of
from blamewise.runner import run
from blamewise.texts import read, read_kind, show
from blamewise.trees import nest, places
from blamewise.why import road, softened
from tests.many_kinds import TRUTH, UNTOLD, WHOLE
from tests.many_programs import backwards, moved, other_program, scattered, told_programs
from tests.many_runs import NUMBERS, TAKEN
from tests.samples import kind_text

# (program, place, way, the road by its kinds)
ROADS = [
    ("(as ? 1)", 1, "", ["whole ?"]),
    ("(as whole (as ? 1))", 1, "", ["? whole"]),
    ("(as whole (as ? 1))", 2, "", ["whole ?"]),
    ("(as (to ? truth) (fn x whole (as ? x)))", 1, "", ["(to whole ?) (to ? truth)"]),
    ("(as (to ? truth) (fn x whole (as ? x)))", 1, "arg", ["(to whole ?) (to ? truth)", "whole ?"]),
    ("(as (to ? truth) (fn x whole (as ? x)))", 1, "res", ["(to whole ?) (to ? truth)", "? truth"]),
    ("(as (row (pair ? ?)) (as ? 1))", 1, "item two",
     ["? (row (pair ? ?))", "? (pair ? ?)", "? ?"]),
    ("(as ? (row (pair whole truth)))", 1, "item one",
     ["(row (pair whole truth)) ?", "(pair whole truth) ?", "whole ?"]),
    ("(as ? (row (to (to whole truth) whole)))", 1, "item arg res",
     ["(row (to (to whole truth) whole)) ?", "(to (to whole truth) whole) ?", "(to whole truth) ?", "truth ?"]),
    ("(as (pair (row ?) ?) (pair (row whole) (row truth)))", 1, "two item",
     ["(pair (row whole) (row truth)) (pair (row ?) ?)", "(row truth) ?", "truth ?"]),
    # From two that are untold every step leads on.
    ("(as (row (row ?)) (as ? 1))", 1, "item item arg res one two item",
     ["? (row (row ?))", "? (row ?)"] + ["? ?"] * 6),
]

# (program, place, way): a step that doesn't fit one of the two kinds.
NO_STEP = [
    ("(as ? 1)", 1, "arg"),
    ("(as ? 1)", 1, "item"),
    ("(as whole (as ? 1))", 1, "res"),
    ("(as (row ?) (as ? 1))", 1, "one"),
    ("(as (row ?) (as ? 1))", 1, "arg"),
    ("(as (row whole) (as ? 1))", 1, "item item"),
    ("(as ? (fn x whole x))", 1, "item"),
    ("(as ? (fn x whole x))", 1, "arg arg"),
    ("(as ? (pair 1 2))", 1, "res"),
    ("(as ? (pair 1 2))", 1, "two two"),
    ("(as (to ? truth) (fn x whole (as ? x)))", 1, "one"),
]


def steps(text):
    return tuple(text.split(" ")) if text else ()


def pair_of(text):
    """Two kinds that are written one behind the other."""
    for number, sign in enumerate(text):
        if sign == " " and text[:number].count("(") == text[:number].count(")"):
            return (read_kind(text[:number]), read_kind(text[number:]))
    return None


class RoadTest(unittest.TestCase):
    def test_by_hand(self):
        for text, place, way, kinds in ROADS:
            for side in ("in", "out"):
                for move in (int, scattered, backwards):
                    with self.subTest(text=text, way=way):
                        found = road(moved(read(text), move), (move(place), side, steps(way)))
                        self.assertEqual(found, [pair_of(pair) for pair in kinds])
                        self.assertIs(type(found), list)

    def test_no_look_there(self):
        for text, place in [("7", 0), ("(as whole 1)", 1), ("(as ? 1)", 0), ("(as ? 1)", 2), ("(as ? 1)", 9999),
                            ("(+ 1 (as ? 2))", 1)]:
            for way in ((), ("arg",), ("item", "one")):
                with self.assertRaises(NoLook) as caught:
                    road(read(text), (place, "in", way))
                self.assertEqual(caught.exception.place, place)

    def test_steps_that_do_not_fit(self):
        for text, place, way in NO_STEP:
            with self.subTest(text=text, way=way), self.assertRaises(NoPart):
                road(read(text), (place, "in", steps(way)))

    def test_the_refusals_of_the_looker_go_ahead(self):
        for text, refusal, place in [("(as ? x)", NoName, 1), ("(pair (as ? 1) (+ 1 yes))", Parted, 5),
                                     (f"(as ? (row {kind_text(4)}))", TooDeep, 1)]:
            for label in ((1, "in", ("arg",)), (70, "in", ())):
                with self.assertRaises(refusal) as caught:
                    road(read(text), label)
                self.assertEqual(caught.exception.place, place)

    def test_every_look_begins_its_road(self):
        for tree in TAKEN[::4]:
            looks = looks_of(tree)
            for place, kind, other in looks:
                self.assertEqual(road(tree, (place, "in", ())), [(kind, other)])
            found = [look[0] for look in looks]
            for place in places(tree):
                if place not in found:
                    with self.assertRaises(NoLook):
                        road(tree, (place, "in", ()))

    def test_the_roads_of_blames(self):
        blames = 0
        for tree in TAKEN:
            answer = run(tree, NUMBERS, 12)
            if answer[0] != "blame":
                continue
            blames += 1
            _, label, wanted, origin, found = answer
            for told, where, told_side in ((wanted, label, 1), (found, origin, 0)):
                way = road(tree, where)
                self.assertEqual(len(way), len(where[2]) + 1)
                end = way[-1] if where[1] == "in" else way[-1][::-1]
                self.assertEqual(ground(end[told_side]), told)
                self.assertEqual(end[1 - told_side], UNTOLD)
                self.assertEqual(where[2].count("arg") % 2, 0 if where[1] == "in" else 1)
        self.assertGreater(blames, 200)

    def test_lists_told_are_new_each_time(self):
        tree, label = read("(as (row whole) (as ? 1))"), (1, "in", ("item",))
        kept = list(road(tree, label))
        road(tree, label).clear()
        with self.assertRaises(NoPart):
            road(tree, (1, "in", ("arg",)))
        self.assertEqual(road(tree, label), kept)


# (program, the same softened, the refusals: place, kind, by, wanted, way)
SOFTENED = [
    ("7", "7", []),
    ("(as truth (as ? 1))", "(as truth (as ? 1))", []),
    ("(as truth 1)", "(as truth (as ? 1))", [(1, "whole", 0, "truth", "")]),
    ("(+ yes 1)", "(+ (as ? yes) 1)", [(1, "truth", 0, "whole", "")]),
    ("(+ yes no)", "(+ (as ? yes) (as ? no))", [(1, "truth", 0, "whole", ""), (2, "truth", 0, "whole", "")]),
    ("(call 1 2)", "(call (as ? 1) 2)", [(1, "whole", 0, "(to ? ?)", "")]),
    ("(if 1 2 yes)", "(if (as ? 1) 2 (as ? yes))", [(1, "whole", 0, "truth", ""), (3, "truth", 2, "whole", "")]),
    ("(as (to whole (row truth)) (fn x whole (row whole)))",
     "(as (to whole (row truth)) (as ? (fn x whole (row whole))))",
     [(1, "(to whole (row whole))", 0, "(to whole (row truth))", "res item")]),
    # A node refused within one that is refused later: the inner one first.
    ("(as whole (as truth 1))", "(as whole (as ? (as truth (as ? 1))))",
     [(2, "whole", 1, "truth", ""), (1, "truth", 0, "whole", "")]),
    ("(size (row truth 1 (+ yes 2) no))", "(size (row truth (as ? 1) (as ? (+ (as ? yes) 2)) no))",
     [(2, "whole", 1, "truth", ""), (4, "truth", 3, "whole", ""), (3, "whole", 1, "truth", "")]),
    ("(one (size (row truth 1)))", "(one (as ? (size (row truth (as ? 1)))))",
     [(3, "whole", 2, "truth", ""), (1, "whole", 0, "(pair ? ?)", "")]),
    # What is made untold makes kinds round it looser, so that these are taken.
    ("(let x (if yes 1 no) (if x 2 (+ x 3)))", "(let x (if yes 1 (as ? no)) (if x 2 (+ x 3)))",
     [(4, "truth", 3, "whole", "")]),
]

SMALL = [tree for tree in told_programs(700, seed=61, level=4) if nest(tree) <= 4 and 3 <= len(places(tree)) <= 60]
ALIKE = [other_program(tree, number) for number, tree in enumerate(SMALL)]


def rows_of(text_rows, first, move):
    return [(move(place), first + number, read_kind(kind), move(by), read_kind(wanted), steps(way))
            for number, (place, kind, by, wanted, way) in enumerate(text_rows)]


def without_new(tree, new):
    """The program without the nodes at new places."""
    if tree[1] in new:
        return without_new(tree[3], new)
    return tree[:2] + tuple([without_new(thing, new) if is_node(thing) else
                             tuple([without_new(part, new) for part in thing]) if is_row(thing) else thing
                             for thing in tree[2:]])


def is_node(thing):
    return isinstance(thing, tuple) and len(thing) > 1 and isinstance(thing[1], int)


def is_row(thing):
    return isinstance(thing, tuple) and len(thing) > 0 and is_node(thing[0])


class SoftenedTest(unittest.TestCase):
    def test_by_hand(self):
        for text, soft, rows in SOFTENED:
            for move in (int, lambda place: 40 - place, lambda place: place * 37 % 997):
                with self.subTest(text=text, move=move):
                    tree = moved(read(text), move)
                    found = softened(tree)
                    self.assertIs(type(found), tuple)
                    self.assertIs(type(found[1]), list)
                    self.assertEqual(show(found[0]), soft)
                    self.assertEqual(found[1], rows_of(rows, max(places(tree)) + 1, move))
                    self.assertEqual(without_new(found[0], [row[1] for row in found[1]]), tree)

    def test_places_of_the_new_nodes(self):
        tree = ("do", 5, "+", ("truth", 999, True), ("truth", 3, False))
        self.assertEqual(softened(tree), (
            ("do", 5, "+", ("as", 1000, UNTOLD, ("truth", 999, True)), ("as", 1001, UNTOLD, ("truth", 3, False))),
            [(999, 1000, TRUTH, 5, WHOLE, ()), (3, 1001, TRUTH, 5, WHOLE, ())]))

    def test_other_refusals_go_through(self):
        deep = f"(row {kind_text(4)})"
        for text, refusal, place in [("x", NoName, 0), ("(+ yes x)", NoName, 2), (deep, TooDeep, 0),
                                     (f"(as {kind_text(5)} 1)", TooDeep, 0),
                                     # Behind rows: the first part is softened, then the second is found too deep.
                                     (f"(pair (+ yes 1) {deep})", TooDeep, 4),
                                     (f"(pair (as truth 1) (size {deep}))", TooDeep, 4)]:
            with self.assertRaises(refusal) as caught:
                softened(read(text))
            self.assertEqual(caught.exception.place, place)

    def test_over_many_programs(self):
        many = []
        for tree in ALIKE:
            try:
                soft, rows = softened(tree)
            except TooDeep:
                continue
            looked(soft)
            many.append(len(rows))
            refused = [row[0] for row in rows]
            self.assertEqual(len(set(refused)), len(refused))
            first = max(places(tree)) + 1
            self.assertEqual([row[1] for row in rows], list(range(first, first + len(rows))))
            self.assertLessEqual(nest(soft), 8)
            self.assertLessEqual(len(places(soft)), 120)
            self.assertEqual(without_new(soft, [row[1] for row in rows]), tree)
            self.assert_refused_in_turn(tree, rows)
        self.assertGreater(many.count(0), 10)
        self.assertGreater(many.count(1), 30)
        self.assertGreater(len([number for number in many if number > 1]), 20)

    def assert_refused_in_turn(self, tree, rows):
        for place, new, kind, by, wanted, way in rows:
            with self.assertRaises(Parted) as caught:
                looked(tree)
            error = caught.exception
            self.assertEqual((error.place, error.kind, error.by, error.wanted, error.way),
                             (place, kind, by, wanted, way))
            tree = wrapped(tree, place, new)

    def test_blames_of_the_new_nodes(self):
        blamed = 0
        for tree in ALIKE + [read(text) for text, _, _ in SOFTENED]:
            try:
                soft, rows = softened(tree)
            except TooDeep:
                continue
            answer = run(soft, NUMBERS, 12)
            told = {row[1]: row for row in rows}
            if answer[0] == "blame" and answer[1][0] in told and answer[1][1:] == ("in", ()):
                blamed += 1
                place, _, kind, _, wanted, _ = told[answer[1][0]]
                self.assertEqual(answer[2:], (ground(wanted), (place, "in", ()), ground(kind)))
        self.assertGreater(blamed, 40)

    def test_the_same_answer_behind_a_refusal(self):
        tree = read("(+ yes no)")
        soft, rows = softened(tree)
        kept = list(rows)
        rows.clear()
        with self.assertRaises(NoName):
            softened(read("x"))
        self.assertEqual(softened(tree), (soft, kept))
        self.assertEqual(softened(soft), (soft, []))


def wrapped(tree, place, new):
    """The program with the node at this place taken for a ?, told another way."""
    if not is_node(tree):
        return tuple([wrapped(thing, place, new) for thing in tree]) if is_row(tree) else tree
    inner = tree[:2] + tuple([wrapped(thing, place, new) for thing in tree[2:]])
    return ("as", new, UNTOLD, inner) if tree[1] == place else inner


if __name__ == "__main__":
    unittest.main()
