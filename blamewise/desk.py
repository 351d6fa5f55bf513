"""Texts in, texts out: what is told of a program that is handed in as a text."""

from blamewise.errors import NoName, NoText, Parted, TooDeep
from blamewise.machine import by_machine
from blamewise.plain import plain
from blamewise.spots import loosened
from blamewise.texts import read, show, show_kind


def told(text, numbers, calls):
    """What the looker or the machine tells of the program."""
    return told_by(by_machine, text, numbers, calls)


def plainly(text, numbers, calls):
    """What the plain run tells of the program."""
    return told_by(plain, text, numbers, calls)


def told_by(one_run, text, numbers, calls):
    """What comes of the program when it is run so."""
    try:
        return answer_text(one_run(read(text), numbers, calls))
    except NoText:
        return "no program"
    except NoName as refusal:
        return in_words(["unknown", refusal.place])
    except TooDeep as refusal:
        return in_words(["deep", refusal.place])
    except Parted as refusal:
        return in_words(["refused", refusal.place, show_kind(refusal.kind), "by", refusal.by,
                         show_kind(refusal.wanted), "at", way_text(refusal.way)])


def eased(text, bits):
    """The text of the program loosened by bits."""
    return show(loosened(read(text), bits))


def answer_text(answer):
    """The text of a run's answer."""
    if answer[0] == "blame":
        return in_words(["blame"] + side_words(answer[1], answer[2]) + ["from"] + side_words(answer[3], answer[4]))
    return in_words(list(answer))


def side_words(label, kind):
    """The words for a label and the ground that goes with it."""
    return [label[0], label[1], way_text(label[2]), show_kind(kind)]


def way_text(way):
    """The steps of a way with dots between, or - where there are none."""
    return ".".join(way) if way else "-"


def in_words(things):
    """Texts and numbers with blanks between."""
    return " ".join([str(thing) for thing in things])
