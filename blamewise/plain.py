"""The plain run, which looks at no kind at all."""

from blamewise.trees import need_names
from blamewise.walker import walked


def plain(tree, numbers, calls):
    """The answer of the program run without any look."""
    need_names(tree)
    return walked(tree, {}, numbers, calls, False)
