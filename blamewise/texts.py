"""Programs and kinds read from texts, and written as texts."""

from blamewise.errors import NoText
from blamewise.trees import form

MOST_SIGNS = 2000
MOST_FIGURES = 40
MOST_GIVEN = 7
MOST_IN_ROW = 4
MOST_NEST = 8
MOST_NODES = 120
MOST_DEPTH = 6
MOST_LETTERS = 8

FIGURES = "0123456789"
LETTERS = "abcdefghijklmnopqrstuvwxyz"
SIGNS = ("+", "-", "*", "<", "=")
TRUTHS = ("yes", "no")

# The words of nodes that are written behind a bracket as they stand; a do is
# written by its sign, and the others of the table stand without brackets.
BRACKETED = ("given", "fn", "self", "call", "let", "if", "row", "at", "size", "pair", "one", "two", "as")

SIMPLE_KINDS = ("whole", "truth", "?")
KIND_PARTS = {"to": 2, "row": 1, "pair": 2}


def read(text):
    """The program that the text writes, with places in order from 0."""
    reader = Reader(words_in(text))
    tree = reader.read_node(1)
    reader.need_end()
    return tree


def read_kind(text):
    """The kind that the text writes."""
    reader = Reader(words_in(text))
    kind = reader.read_one_kind(1)
    reader.need_end()
    return kind


def words_in(text):
    """The text parted into words: every bracket, and all between blanks and brackets."""
    if len(text) > MOST_SIGNS:
        raise NoText(f"more than {MOST_SIGNS} signs")
    spaced = text.replace("(", " ( ").replace(")", " ) ")
    return [word for word in spaced.split(" ") if word != ""]


class Reader:
    """Goes through the words of one text from the first to the last."""

    # The bound of 20 brackets begun and not ended needs no count of its own: each
    # bracket is a level of nodes or of kinds, and a level beyond its bound is
    # refused where it begins, so that no reading comes as far as a 20th one.

    def __init__(self, words):
        self.words = words
        self.taken = 0
        self.nodes = 0

    def peek(self):
        """The word that comes next, left where it is."""
        if self.taken == len(self.words):
            raise NoText("the text ends too early")
        return self.words[self.taken]

    def take(self):
        """The word that comes next, gone by now."""
        word = self.peek()
        self.taken += 1
        return word

    def need_closed(self):
        """Takes the bracket that must come next."""
        word = self.take()
        if word != ")":
            raise NoText(f"{word!r} where a bracket must end")

    def need_end(self):
        """Refuses words that are left."""
        if self.taken < len(self.words):
            raise NoText("words behind the end")

    def new_place(self):
        """The place of the next node in order."""
        if self.nodes == MOST_NODES:
            raise NoText(f"more than {MOST_NODES} nodes")
        self.nodes += 1
        return self.nodes - 1

    def read_node(self, level):
        """The next node, with level 1 for a program and 1 more for each node round it."""
        if level > MOST_NEST:
            raise NoText(f"a nest of more than {MOST_NEST}")
        place = self.new_place()
        word = self.take()
        if word != "(":
            return leaf(word, place)
        tree = self.read_bracketed(place, level)
        self.need_closed()
        return tree

    def read_bracketed(self, place, level):
        """The node whose bracket has begun, up to the end of that bracket."""
        word = self.take()
        if word in SIGNS:
            return ("do", place, word) + self.read_things(form("do")[1:], level)
        if word in BRACKETED:
            return (word, place) + self.read_things(form(word), level)
        raise NoText(f"{word!r} right behind a bracket")

    def read_things(self, sorts, level):
        """The things of these sorts, in a node of this level."""
        return tuple([self.read_thing(sort, level) for sort in sorts])

    def read_thing(self, sort, level):
        """The next thing, which must be of this sort."""
        if sort == "node":
            return self.read_node(level + 1)
        if sort == "nodes":
            return self.read_row(level + 1)
        if sort == "kind":
            return self.read_one_kind(1)
        if sort == "name":
            return name_of(self.take())
        return given_of(self.take())

    def read_row(self, level):
        """The nodes of this level up to the end of the bracket."""
        found = []
        while self.peek() != ")":
            if len(found) == MOST_IN_ROW:
                raise NoText(f"more than {MOST_IN_ROW} things in a row")
            found.append(self.read_node(level))
        return tuple(found)

    def read_one_kind(self, level):
        """The next kind, with level 1 for a whole kind and 1 more for each kind round it."""
        if level > MOST_DEPTH:
            raise NoText(f"a kind deeper than {MOST_DEPTH}")
        word = self.take()
        if word in SIMPLE_KINDS:
            return (word,)
        if word != "(":
            raise NoText(f"{word!r} where a kind is due")
        head = self.take()
        if head not in KIND_PARTS:
            raise NoText(f"{head!r} where the head of a kind is due")
        found = [self.read_one_kind(level + 1) for number in range(KIND_PARTS[head])]
        self.need_closed()
        return (head,) + tuple(found)


def leaf(word, place):
    """The node that this one word writes."""
    if word in TRUTHS:
        return ("truth", place, word == "yes")
    if is_number(word):
        return ("whole", place, int(word))
    return ("name", place, name_of(word))


def is_number(word):
    """True where the word writes a number that a program may hold."""
    figures = word[1:] if word.startswith("-") else word
    if not 1 <= len(figures) <= MOST_FIGURES or not only_signs(figures, FIGURES):
        return False
    return word == "0" or not figures.startswith("0")


def only_signs(word, signs):
    """True where no other signs are in the word."""
    # isdigit and islower would let in signs beyond ASCII.
    return all([sign in signs for sign in word])


def given_of(word):
    """The number that the word tells behind given."""
    if not is_number(word) or not 0 <= int(word) <= MOST_GIVEN:
        raise NoText(f"{word!r} behind given")
    return int(word)


def name_of(word):
    """The word itself, where it may be a name."""
    if word in TRUTHS or not 1 <= len(word) <= MOST_LETTERS or not only_signs(word, LETTERS):
        raise NoText(f"{word!r} where a name is due")
    return word


def show(tree):
    """The text of a program."""
    word = tree[0]
    if word == "whole":
        return str(tree[2])
    if word == "truth":
        return "yes" if tree[2] else "no"
    if word == "name":
        return tree[2]
    shown = [] if word == "do" else [word]
    for sort, thing in zip(form(word), tree[2:]):
        shown.extend(show_thing(sort, thing))
    return in_brackets(shown)


def show_thing(sort, thing):
    """The texts of a thing in a node."""
    if sort == "node":
        return [show(thing)]
    if sort == "nodes":
        return [show(part) for part in thing]
    if sort == "kind":
        return [show_kind(thing)]
    return [str(thing)]


def show_kind(kind):
    """The text of a kind."""
    if len(kind) == 1:
        return kind[0]
    return in_brackets([kind[0]] + [show_kind(part) for part in kind[1:]])


def in_brackets(shown):
    """The texts in one pair of brackets."""
    return "(" + " ".join(shown) + ")"
