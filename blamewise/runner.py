"""The run of a program with its looks, by going through the tree."""

from blamewise.ready import made_looks
from blamewise.walker import walked


def run(tree, numbers, calls, together=False):
    """The answer of the program; together tells that guards beside a value are laid together."""
    return walked(tree, made_looks(tree), numbers, calls, together)
