"""Nodes of every word, and texts at the bounds, for the tests."""

WHOLE = ("whole",)
TRUTH = ("truth",)
UNTOLD = ("?",)
TO = ("to", WHOLE, UNTOLD)
ROW = ("row", TRUTH)
PAIR = ("pair", TO, ROW)

E = ("whole", 1, 7)
F = ("name", 2, "y")
G = ("truth", 3, True)
H = ("given", 4, 0)

# (node, its parts, its written kinds, its text), for each word of the table.
NODES = [
    (("whole", 9, 7), [], [], "7"),
    (("whole", 9, -7), [], [], "-7"),
    (("whole", 9, 0), [], [], "0"),
    (("truth", 9, True), [], [], "yes"),
    (("truth", 9, False), [], [], "no"),
    (("given", 9, 3), [], [], "(given 3)"),
    (("name", 9, "x"), [], [], "x"),
    (("fn", 9, "x", TO, E), [E], [TO], "(fn x (to whole ?) 7)"),
    (("self", 9, "f", "x", TO, ROW, E), [E], [TO, ROW], "(self f x (to whole ?) (row truth) 7)"),
    (("call", 9, E, F), [E, F], [], "(call 7 y)"),
    (("let", 9, "x", E, F), [E, F], [], "(let x 7 y)"),
    (("if", 9, E, F, G), [E, F, G], [], "(if 7 y yes)"),
    (("do", 9, "+", E, F), [E, F], [], "(+ 7 y)"),
    (("do", 9, "-", E, F), [E, F], [], "(- 7 y)"),
    (("do", 9, "*", E, F), [E, F], [], "(* 7 y)"),
    (("do", 9, "<", E, F), [E, F], [], "(< 7 y)"),
    (("do", 9, "=", E, F), [E, F], [], "(= 7 y)"),
    (("row", 9, PAIR, ()), [], [PAIR], "(row (pair (to whole ?) (row truth)))"),
    (("row", 9, UNTOLD, (E,)), [E], [UNTOLD], "(row ? 7)"),
    (("row", 9, WHOLE, (E, F)), [E, F], [WHOLE], "(row whole 7 y)"),
    (("row", 9, TRUTH, (E, F, G)), [E, F, G], [TRUTH], "(row truth 7 y yes)"),
    (("row", 9, UNTOLD, (E, F, G, H)), [E, F, G, H], [UNTOLD], "(row ? 7 y yes (given 0))"),
    (("at", 9, E, F), [E, F], [], "(at 7 y)"),
    (("size", 9, E), [E], [], "(size 7)"),
    (("pair", 9, E, F), [E, F], [], "(pair 7 y)"),
    (("one", 9, E), [E], [], "(one 7)"),
    (("two", 9, E), [E], [], "(two 7)"),
    (("as", 9, TO, E), [E], [TO], "(as (to whole ?) 7)"),
]

LOOKS = [
    ("look", 1, WHOLE, UNTOLD, E),
    ("look", 1, UNTOLD, TO, ("look", 1, WHOLE, UNTOLD, E)),
]

# (kind, its text)
KINDS = [
    (WHOLE, "whole"),
    (TRUTH, "truth"),
    (UNTOLD, "?"),
    (("to", WHOLE, TRUTH), "(to whole truth)"),
    (("row", UNTOLD), "(row ?)"),
    (("pair", TRUTH, UNTOLD), "(pair truth ?)"),
    (("to", ("to", WHOLE, UNTOLD), ("pair", ("row", TRUTH), WHOLE)),
     "(to (to whole ?) (pair (row truth) whole))"),
]


def kind_text(depth):
    """A kind of this depth, written."""
    return "(row " * (depth - 1) + "whole" + ")" * (depth - 1)


def kind_of_depth(depth):
    """The same kind as a tuple."""
    kind = WHOLE
    for _ in range(depth - 1):
        kind = ("row", kind)
    return kind


def nest_text(nest, leaf="1"):
    """A program of this nest, written."""
    return "(size " * (nest - 1) + leaf + ")" * (nest - 1)


def nodes_text(nodes):
    """A program of this many nodes, at least 85, with a nest of at most 5, written."""
    wanted = (nodes - 85) // 4
    leaves = ["(row ? 1 1 1 1)"] * wanted + ["1"] * (64 - wanted)
    rest = (nodes - 85) % 4
    leaves[-1] = "(row ?" + " 1" * rest + ")"
    while len(leaves) > 1:
        leaves = ["(row ? " + " ".join(leaves[k:k + 4]) + ")" for k in range(0, len(leaves), 4)]
    return leaves[0]
