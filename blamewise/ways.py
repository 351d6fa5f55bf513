"""All ways of taking kinds away from a program, and the tightest ones that do well."""

from blamewise.errors import Parted, TooDeep, TooMany
from blamewise.runner import run
from blamewise.spots import loosened, spots

MOST_SPOTS = 6


def every(tree, numbers, calls):
    """The answers of the program loosened by 0, 1, 2 and so on."""
    many = spots(tree)
    if many > MOST_SPOTS:
        raise TooMany(f"{many} spots are more than {MOST_SPOTS}")
    return [answer_of(loosened(tree, bits), numbers, calls) for bits in range(1 << many)]


def answer_of(tree, numbers, calls):
    """The answer of the run, or that the looker refuses the program."""
    try:
        return run(tree, numbers, calls)
    except (Parted, TooDeep) as refusal:
        return ("refused", refusal.place)


def tightest(tree, numbers, calls):
    """The bits of the good ways that are good no more when one of their ones is put to nought."""
    good = [answer[0] not in ("refused", "blame") for answer in every(tree, numbers, calls)]
    return [bits for bits in range(len(good)) if is_tight(bits, good)]


def is_tight(bits, good):
    """True where the way is good and none of those with one one fewer is; good tells it of all ways."""
    return good[bits] and not any([good[fewer] for fewer in one_fewer(bits)])


def one_fewer(bits):
    """All bits that come when a one is put to nought."""
    return [bits ^ (1 << number) for number in range(bits.bit_length()) if bits >> number & 1 == 1]
