"""Programs that the looker takes, for runs: made by hand, and drawn by the counting rule."""

from blamewise.texts import read
from tests.loops import loop_programs
from tests.many_programs import looser_program, lying_programs, told_programs

BY_HAND = [read(text) for text in [
    "7",
    "(as ? 7)",
    "(as truth (as ? 7))",
    "(call (self f x ? ? (call f x)) 1)",
    "(call (self f x ? ? (call f (* x x))) 99)",
    "(call (self f x whole whole (call f (* x (as ? x)))) -99)",
    "(call (self f x ? ? (+ x (call f (* x x)))) 999)",
    "(at (as ? (row whole 1 2)) (as ? -1))",
    "(call (self f x ? ? (at (row ? 1) (call f x))) 3)",
    "(let w (fn x ? (call x x)) (call w w))",
    "(let w (fn x ? (call x x)) (call w (as (to ? truth) w)))",
    "(call (as (to whole truth) (as ? (fn x truth x))) 1)",
    "(call (as (to truth whole) (as ? (fn x truth x))) yes)",
    "(call (as (to (to whole truth) whole) (as ? (fn g (to whole whole) (call g 1)))) (fn y whole (< y 1)))",
    "(call (as (to (to truth whole) whole) (as ? (fn g (to whole whole) (call g 1)))) (fn y truth 1))",
    "(let g (as (to ? truth) (as (to ? ?) (as (to ? whole) (fn x ? x)))) (call g 1))",
    "(let g (as (to whole ?) (as (to ? ?) (as (to truth ?) (fn x ? x)))) (call g 1))",
    "(as (row truth) (as (row ?) (as (row whole) (row ? 1))))",
    "(as (row (to whole truth)) (as ? (row (to whole whole) (fn x whole x))))",
    "(call (one (as (pair (to truth ?) ?) (as ? (pair (fn x whole x) 1)))) yes)",
    "(call (self f x ? truth (if (< x 1) yes (call f (- x 1)))) 9)",
    "(call (self f x ? truth (if (< x 1) (as ? 1) (as truth (as ? (call f (- x 1)))))) 4)",
]]

TOLD = told_programs(120, seed=31)
LYING = lying_programs(220, seed=32)
LOOSER = [looser_program(tree, number) for number, tree in enumerate(LYING + TOLD)]
LOOPS = loop_programs(300, seed=33)

TAKEN = BY_HAND + TOLD + LYING + LOOSER + LOOPS

NUMBERS = [3, -2, 10]
