"""Programs that call themselves through looks, put together from pieces by the counting rule."""

from blamewise.errors import NoText, Parted, TooDeep
from blamewise.looker import looked
from blamewise.texts import read
from tests.counting import Counting

# A function that counts down and calls itself, within what stands round the call.
COUNTING = "(call (self f n {arg} {res} (if (< n 1) {base} {round})) {start})"
ROUND = ["{}", "(as ? {})", "(as whole {})", "(as truth (as ? {}))", "(as whole (as ? {}))", "(let y {} y)",
         "(let n (- n 1) {})", "(if yes {} n)", "(if (< n 3) {} (as ? {}))", "(+ 1 {})", "(pair 1 {})",
         "(one (pair {} n))", "(row ? {})", "(let y n (as ? {}))", "(if yes (as ? {}) (as whole {}))"]
AGAIN = ["(call f (- n 1))", "(call f (- n 1))", "(call f (as ? (- n 1)))", "(call (as ? f) (- n 1))",
         "(call (as (to whole whole) f) (- n 1))", "(call (as (to ? truth) f) (- n 1))",
         "(call (as (to whole whole) (as ? f)) (- n 1))"]
ARGS = ["whole", "?"]
RESULTS = ["whole", "?", "?", "truth", "(pair whole ?)", "(row whole)", "(row ?)"]
BASES = ["n", "(as ? n)", "yes", "(as ? yes)", "(as ? (pair 1 n))", "(row ? 1 n)", "f", "(as ? (row whole n))",
         "(size (as ? n))"]
STARTS = ["3", "(given 0)", "(as ? 2)", "(given 1)"]

# A function that hands another thing on and on, each time through looks, and uses it at the end.
CARRYING = "(let f (self f n {arg} {res} (fn g {kind} (if (< n 1) {use} {again}))) (call (call f {start}) {thing}))"
CARRIED_RESULTS = ["?", "(to ? ?)", "(to (to whole ?) ?)", "(to (to ? ?) whole)", "(to (row ?) ?)", "(to ? truth)"]
CARRIED_KINDS = ["?", "?", "(to ? ?)", "(to whole ?)", "(to ? whole)", "(to whole whole)", "(row ?)", "(row whole)",
                 "(pair ? ?)", "(pair whole ?)", "(to (to whole ?) ?)"]
USES = ["g", "g", "(call g 1)", "(call g yes)", "(call g (fn x ? x))", "(+ 1 (call g 2))", "(at g 0)", "(size g)",
        "(one g)", "(two g)", "(call g (as ? n))", "(as truth (as ? (call g 1)))", "(at g 5)"]
CARRIED_AGAIN = ["(call (call f (- n 1)) {})", "(as ? (call (call f (- n 1)) {}))",
                 "(let h {} (call (call f (- n 1)) h))"]
PASSED = ["g", "(as ? g)", "(as (to ? ?) g)", "(as (to whole ?) (as ? g))", "(as (to ? whole) (as ? g))",
          "(as (row whole) (as ? g))", "(as (row ?) g)", "(as (pair ? truth) (as ? g))", "(as (to whole whole) g)",
          "(as (to ? ?) (as (to whole ?) g))", "(as (to truth ?) (as ? g))"]
THINGS = ["(fn x whole x)", "(fn x ? x)", "(fn x truth x)", "(self h x whole truth (< x 1))", "(row whole 1 2)",
          "(row ? yes 1)", "(pair 1 yes)", "(as ? (pair yes 2))", "(fn x (to whole whole) (call x 3))", "(row ?)",
          "(fn x ? (if x 1 2))", "7"]


def counting_text(rule):
    return COUNTING.format(
        arg=rule.one_of(ARGS), res=rule.one_of(RESULTS), base=rule.one_of(BASES), start=rule.one_of(STARTS),
        round=rule.one_of(ROUND).replace("{}", rule.one_of(AGAIN)))


def carrying_text(rule):
    return CARRYING.format(
        arg=rule.one_of(ARGS), res=rule.one_of(CARRIED_RESULTS), kind=rule.one_of(CARRIED_KINDS),
        use=rule.one_of(USES), start=rule.one_of(STARTS), thing=rule.one_of(THINGS),
        again=rule.one_of(CARRIED_AGAIN).replace("{}", rule.one_of(PASSED)))


def loop_programs(many, seed=1):
    """This many programs that the looker takes, as many of each sort."""
    rule = Counting(seed)
    found = []
    while len(found) < many:
        text = carrying_text(rule) if len(found) % 2 else counting_text(rule)
        try:
            tree = read(text)
            looked(tree)
        except (NoText, Parted, TooDeep):
            continue
        found.append(tree)
    return found
