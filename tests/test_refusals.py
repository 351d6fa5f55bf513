"""The texts that are no programs and no kinds."""

import itertools
import unittest

from blamewise.errors import NoText
from blamewise.texts import read, read_kind, show, show_kind
from tests.samples import KINDS, NODES, kind_text, nest_text, nodes_text

# Each head of a bracket with its parts, as many as it must have.
FULL = {
    "given": ["1"],
    "fn": ["x", "?", "1"],
    "self": ["f", "x", "?", "?", "1"],
    "call": ["1", "2"],
    "let": ["x", "1", "2"],
    "if": ["1", "2", "3"],
    "+": ["1", "2"],
    "-": ["1", "2"],
    "*": ["1", "2"],
    "<": ["1", "2"],
    "=": ["1", "2"],
    "row": ["?"],
    "at": ["1", "2"],
    "size": ["1"],
    "pair": ["1", "2"],
    "one": ["1"],
    "two": ["1"],
    "as": ["?", "1"],
}


def bracketed(head, things):
    return "(" + " ".join([head] + things) + ")"


class RefusalTest(unittest.TestCase):
    def refuse(self, *texts):
        for text in texts:
            with self.subTest(text=text[:80]), self.assertRaises(NoText):
                read(text)

    def refuse_kind(self, *texts):
        for text in texts:
            with self.subTest(text=text[:80]), self.assertRaises(NoText):
                read_kind(text)

    def refuse_both(self, *texts):
        self.refuse(*texts)
        self.refuse_kind(*texts)


class LengthTest(RefusalTest):
    def test_2001_signs(self):
        self.refuse("7" + " " * 2000, " " * 2000 + "7")
        self.refuse_kind("whole" + " " * 1996, " " * 1000 + "?" + " " * 1000)

    def test_much_longer_texts(self):
        for sign in ("(", ")", "7", "x", " ", "-", "? ", "(size ", "(row ", "(to ", "7 ", "()"):
            for many in (400, 2000, 100000):
                self.refuse_both(sign * many)

    def test_long_programs_else_right(self):
        self.refuse(nest_text(5000), nodes_text(120) + " " * 2000)
        self.refuse_kind(kind_text(5000), kind_text(6) + " " * 2000)


class BracketsTest(RefusalTest):
    def test_many_brackets_begun(self):
        for many in (20, 21, 22, 300):
            self.refuse_both("(" * many, "(" * many + ")" * many)
            self.refuse(nest_text(many), "(call 1 " + "(" * many, "(row ? " * many + ")" * many)
            self.refuse_kind(kind_text(many), "(to ? " * many + "?" + ")" * many)

    def test_a_bracket_too_few_or_too_many(self):
        for _, _, _, text in NODES:
            if text.startswith("("):
                self.refuse(text[1:], text[:-1])
            self.refuse("(" + text, text + ")", ")" + text, text + "(", "(" + text + ")", text + "()")
        for _, text in KINDS:
            if text.startswith("("):
                self.refuse_kind(text[1:], text[:-1])
            self.refuse_kind("(" + text, text + ")", ")" + text, text + "(", "(" + text + ")", text + "()")

    def test_no_word_at_all(self):
        self.refuse_both("", " ", " " * 2000, "()", "( )", "(())", ")(", "(", ")")

    def test_brackets_round_a_leaf(self):
        self.refuse("(7)", "(-7)", "(yes)", "(no)", "(x)", "(let)", "((given 1))", "(+)", "((+ 1 2))", "(+ 1 (2))")
        self.refuse_kind("(whole)", "(truth)", "(?)", "(row (?))", "((row ?))", "(to ? (whole))")


class WordsTest(RefusalTest):
    def test_a_word_ahead_or_behind(self):
        for _, _, _, text in NODES:
            for word in ("1", "x", "yes", "?", "(given 1)", "+"):
                self.refuse(word + " " + text, text + " " + word)
        for _, text in KINDS:
            for word in ("whole", "?", "1", "x", "(row ?)", "to"):
                self.refuse_kind(word + " " + text, text + " " + word)

    def test_a_part_too_few_or_too_many(self):
        for head, things in FULL.items():
            read(bracketed(head, things))
            for left_out in range(len(things)):
                self.refuse(bracketed(head, things[:left_out] + things[left_out + 1:]),
                            bracketed(head, things[:left_out]))
            if head != "row":
                self.refuse(bracketed(head, things + ["1"]), bracketed(head, things + ["x"]),
                            bracketed(head, things + ["?"]), bracketed(head, things + ["(given 1)"]))

    def test_a_part_too_few_or_too_many_in_a_kind(self):
        self.refuse_kind("(to)", "(to ?)", "(to ? ? ?)", "(row)", "(row ? ?)", "(pair)", "(pair ?)",
                         "(pair ? ? ?)", "(to ? (row))", "(to (pair ?) ?)")

    def test_heads_that_no_bracket_has(self):
        self.refuse("(do + 1 2)", "(whole 7)", "(truth yes)", "(name x)", "(look ? whole 1)", "(f 1)", "(f 1 2)",
                    "(to ? ?)", "(fnx ? 1)", "(Let x 1 2)", "(/ 1 2)", "(> 1 2)", "(++ 1 2)", "(<= 1 2)", "(1 2)",
                    "((fn x ? x) 1)", "(() 1 2)", "(+1 2)", "(-1 2)", "(? 1)")
        self.refuse_kind("(fn ? ?)", "(whole ?)", "(? ?)", "(do ? ?)", "(To ? ?)", "((to) ? ?)", "(-> ? ?)")

    def test_parts_in_another_order_or_of_another_sort(self):
        self.refuse("(fn ? x 1)", "(fn x 1 ?)", "(fn (x) ? 1)", "(fn x y 1)", "(fn 1 ? 1)", "(self f ? x ? 1)",
                    "(self f x ? 1 ?)", "(self f x ? y 1)", "(let 1 x 2)", "(let (x 1) 2)", "(let ? 1 2)",
                    "(row 1 2)", "(row x 1)", "(row ? ?)", "(row yes 1)", "(as 1 ?)", "(as x 1)", "(call 1 ?)",
                    "(size ?)", "(if ? 1 2)", "(+ + 1 2)", "(+ 1 +)", "(given x)", "(given ?)", "(given (given 1))",
                    "(given yes)", "(as (to ? 1) 1)", "(as (row x) 1)", "(fn x (pair ?) 1)", "?")
        self.refuse_kind("7", "yes", "x", "(given 1)", "(to whole x)", "(row 7)", "wholes", "Whole", "??", "to", "row")


class NumbersTest(RefusalTest):
    def refuse_number(self, *words):
        for word in words:
            self.refuse(word, f"(+ 1 {word})", f"(row ? {word} 1)", f"(given {word})")

    def test_41_figures(self):
        self.refuse_number("9" * 41, "-" + "9" * 41, "1" + "0" * 40, "-1" + "0" * 40, "1" * 1000, "0" * 41)

    def test_a_nought_ahead(self):
        self.refuse_number("00", "01", "007", "-01", "-007", "-00", "0" + "1" * 39)

    def test_a_minus_where_none_may_be(self):
        self.refuse_number("-0", "-", "--1", "+1", "+-1", "-+1", "1-", "1-1", "- 1")

    def test_other_writings_of_numbers(self):
        self.refuse_number("1.0", "1_000", "0x1", "1e3", "1x", "x1", "\u00b2", "\u0661", "\uff11", "1\u0661", "-\u0661")

    def test_given_beyond_its_bounds(self):
        self.refuse("(given 8)", "(given 9)", "(given 10)", "(given -1)", "(given 00)", "(given 07)", "(given -0)",
                    "(given)", "(given 1 1)", "(given 1 2)", "given 1", "(given1)", "(given " + "7" * 40 + ")")


class NamesTest(RefusalTest):
    def refuse_name(self, *words):
        for word in words:
            self.refuse(word, f"(fn {word} ? 1)", f"(let {word} 1 2)", f"(self {word} x ? ? 1)",
                        f"(self f {word} ? ? 1)", f"(size {word})")

    def test_9_letters(self):
        self.refuse_name("abcdefghi", "a" * 9, "z" * 1000)

    def test_other_signs_in_names(self):
        self.refuse_name("x1", "1x", "X", "xY", "Xy", "x_", "_x", "x-y", "x?", "x.y", "x'", "\u00e9", "a\u00e9", "\u00df",
                         "\u03b1", "\u0430")

    def test_yes_and_no_where_a_name_is_bound(self):
        for word in ("yes", "no"):
            read(f"(size {word})")
            self.refuse(f"(fn {word} ? 1)", f"(let {word} 1 2)", f"(self {word} x ? ? 1)", f"(self f {word} ? ? 1)")


class SizesTest(RefusalTest):
    def test_a_row_of_5(self):
        self.refuse("(row ? 1 2 3 4 5)", "(row ? 1 2 3 4 (row ?))", "(size (row whole 1 1 1 1 1))",
                    "(row ?" + " 1" * 900 + ")")

    def test_nest_of_9(self):
        for leaf in ("1", "x", "(given 7)", "(row ?)"):
            self.refuse(nest_text(9, leaf), nest_text(10, leaf), nest_text(15, leaf))
        self.refuse(f"(pair 1 {nest_text(8)})", f"(if {nest_text(8)} 1 2)", f"(row ? 1 {nest_text(8)})",
                    f"(fn x ? {nest_text(8)})", f"(let x {nest_text(8)} 1)")

    def test_121_nodes(self):
        self.refuse(nodes_text(121), nodes_text(122), nodes_text(200))

    def test_kinds_of_depth_7(self):
        text = kind_text(7)
        self.refuse_kind(text, kind_text(8), f"(to ? {kind_text(6)})", f"(pair {kind_text(6)} ?)")
        self.refuse(f"(fn x {text} 1)", f"(self f x {text} ? 1)", f"(self f x ? {text} 1)", f"(row {text})",
                    f"(as {text} 1)", f"(as (to ? {kind_text(6)}) 1)")


class SignsTest(RefusalTest):
    def test_signs_that_no_program_is_written_with(self):
        for number in list(range(32)) + list(range(127, 256)) + [0x2028, 0x3000, 0xd800, 0x10ffff]:
            sign = chr(number)
            self.refuse(sign, "x" + sign, sign + "x", "(+" + sign + "1 2)", "(+ 1 2)" + sign, sign + "(+ 1 2)")
            self.refuse_kind(sign, "whole" + sign, sign + "whole", "(row" + sign + "?)", "(row ?)" + sign)

    def test_ascii_signs_of_no_word(self):
        for sign in "!\"#$%&',./:;>@[\\]^_`{|}~":
            self.refuse(sign, "x" + sign, sign + " 1", "(+ 1 " + sign + ")", "(" + sign + " 1 2)")
            self.refuse_kind(sign, "?" + sign, sign + " ?", "(row " + sign + ")", "(" + sign + " ? ?)")


    def test_every_ascii_sign_in_numbers_and_names(self):
        for sign in map(chr, range(33, 127)):
            if not sign.isdigit():
                self.refuse("1" + sign + "1", "1" + sign, "(+ 1 2" + sign + "1)", "(given 1" + sign + ")")
            if not sign.islower() and sign not in "()":
                self.refuse("x" + sign + "x", "x" + sign, "(fn x" + sign + " ? 1)", "(let " + sign + "x 1 2)")


class NearbyTest(unittest.TestCase):
    """Whatever is read is told word by word; so no text is taken for another one."""

    def check(self, words, reading, showing):
        try:
            found = reading(" ".join(words))
        except NoText:
            return
        self.assertEqual(showing(found).replace("(", "( ").replace(")", " )").split(), words)

    def check_nearby(self, text, reading, showing):
        words = text.replace("(", "( ").replace(")", " )").split()
        for number in range(len(words)):
            self.check(words[:number] + words[number + 1:], reading, showing)
            for word in ["(", ")", "?", "1", "x", "yes", "+", "row", "to", "whole", "given"]:
                self.check(words[:number] + [word] + words[number:], reading, showing)
                self.check(words[:number] + [word] + words[number + 1:], reading, showing)

    def test_one_word_more_or_less_or_another_one(self):
        for _, _, _, text in NODES:
            self.check_nearby(text, read, show)
            self.check_nearby(f"(pair {text} {text})", read, show)
        for _, text in KINDS:
            self.check_nearby(text, read_kind, show_kind)

    def test_all_short_rows_of_words(self):
        for many in range(6):
            for words in itertools.product(["(", ")", "1", "x", "?", "row", "+", "given"], repeat=many):
                self.check(list(words), read, show)
                self.check(list(words), read_kind, show_kind)


class AgainTest(RefusalTest):
    def test_read_as_well_behind_a_refusal(self):
        first = read("(let x 1 (+ x 2))")
        for wrong in ("(let x 1 (+ x 2)", "(row ? 1 2 3 4 5)", nodes_text(121), "(" * 3000):
            self.refuse(wrong)
            self.assertEqual(read("(let x 1 (+ x 2))"), first)

    def test_refused_as_often_as_it_is_read(self):
        for wrong in ("", "(+ 1)", nest_text(9), nodes_text(121)):
            self.refuse(wrong, wrong, wrong)
        for _ in range(3):
            self.refuse_kind(kind_text(7))
            self.assertEqual(read_kind("(row ?)"), ("row", ("?",)))


if __name__ == "__main__":
    unittest.main()
