"""All runs of one program, for the tests: each by its name."""

from blamewise.machine import by_machine
from blamewise.runner import run


def tree_apart(tree, numbers, calls):
    return run(tree, numbers, calls)


def tree_together(tree, numbers, calls):
    return run(tree, numbers, calls, True)


def machine_together(tree, numbers, calls):
    return by_machine(tree, numbers, calls)


def machine_apart(tree, numbers, calls):
    return by_machine(tree, numbers, calls, False)


RUNS = [tree_apart, tree_together, machine_together, machine_apart]


def the_answer(tree, numbers, calls):
    """The answer in which all runs end, or all of their answers where they are unlike."""
    found = [one_run(tree, numbers, calls) for one_run in RUNS]
    return found[0] if found[1:] == found[:1] * 3 else found
