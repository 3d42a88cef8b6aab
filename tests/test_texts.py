"""Points 1 and 12: trees as texts."""

import unittest

from joinside import texts
from joinside.errors import BadText
from joinside.texts import read, shown
from joinside.trees import tree_by

from samples import (DEEP, FIGURES, all_told, nested, odd_things, points_in, random_points, random_told, refuse,
                     samples_of)
from told_trees import EXAMPLE, LONG_FIRST, LONG_LAST, TREES, no_trees, trees_to_try

WRITTEN = [
    (0, "0"), (7, "7"), (9, "9"), (10, "10"), (19, "19"), (20, "20"), (29, "29"),
    (("side", (0, 1)), "(0 | 1)"), (("join", (0, 1)), "(0 & 1)"), (("side", (9, 10)), "(9 | 10)"),
    (("join", (3, 29)), "(3 & 29)"), (("side", (1, 2, 3, 4)), "(1 | 2 | 3 | 4)"),
    (("join", (8, 11, 20)), "(8 & 11 & 20)"),
    (("side", (0, ("join", (1, 2, 5)), 3)), "(0 | (1 & 2 & 5) | 3)"),
    (EXAMPLE, "(0 & (1 | 3) & 2)"),
    (("join", (("side", (0, 12)), ("side", (1, 2)))), "((0 | 12) & (1 | 2))"),
    (("side", (("join", (("side", (0, 1)), 2)), 3)), "(((0 | 1) & 2) | 3)"),
    (("side", (0, ("join", (1, ("side", (2, 3)))))), "(0 | (1 & (2 | 3)))"),
    (("side", tuple(range(30))), "(" + " | ".join(map(str, range(30))) + ")"),
    (("join", tuple(range(30))), "(" + " & ".join(map(str, range(30))) + ")"),
]

# What is put in or exchanged at each place of a text.
SIGNS = "0123456789()|& \n\t+-_.,;[]{}xXabeE'\"/\\\0\u00a0\u0661\u00b2\u0be7\uff11\uff08\u2223\U0001d7ce\ud800"


def written(told):
    """Point 12, word by word."""
    if isinstance(told, int):
        return str(told)
    return "(" + (" | " if told[0] == "side" else " & ").join(map(written, told[1])) + ")"


def without(text, at):
    return text[:at] + text[at + 1:]


def put_in(text, at, sign):
    return text[:at] + sign + text[at:]


def exchanged(text, at, sign):
    return text[:at] + sign + text[at + 1:]


class Interface(unittest.TestCase):
    def test_names_stand_in_their_file(self):
        for name in ("shown", "read"):
            self.assertEqual(getattr(texts, name).__module__, "joinside.texts")

    def test_arguments_have_their_names(self):
        self.assertEqual(shown(told=("side", (0, 1))), "(0 | 1)")
        self.assertEqual(read(text="(0 | 1)"), ("side", (0, 1)))


class Right(unittest.TestCase):
    def check(self, told, text):
        self.assertEqual(shown(told), text)
        self.assertIs(type(shown(told)), str)
        found = read(text)
        self.assertEqual(repr(found), repr(told))
        self.assertEqual(tree_by(found).told(), told)
        self.assertEqual(shown(found), text)

    def test_some_by_hand(self):
        for told, text in WRITTEN:
            self.check(told, text)

    def test_each_point(self):
        for point in range(30):
            self.check(point, str(point))
            self.assertIs(type(read(str(point))), int)

    def test_all_small_trees(self):
        found = set()
        for points in ([4], [0, 1], [9, 10, 11], [0, 1, 2, 3], [2, 12, 20, 29]):
            for told in all_told(points):
                self.check(told, written(told))
                found.add(shown(told))
        self.assertEqual(len(found), 1 + 2 + 8 + 52 + 52)

    def test_all_kinds_of_up_to_thirty_points(self):
        for told in trees_to_try(81, 200):
            self.check(told, written(told))

    def test_as_deep_as_can_be(self):
        for told in (LONG_LAST, LONG_FIRST):
            self.assertEqual(shown(told).count("("), 29)
            self.check(told, written(told))

    def test_asked_again_told_again(self):
        rows = [(told, shown(told)) for told in TREES]
        for _ in range(2):
            for told, text in reversed(rows):
                self.assertEqual((shown(told), repr(read(text))), (text, repr(told)))


class NoTrees(unittest.TestCase):
    def test_what_is_no_tree(self):
        for told in no_trees():
            refuse(self, "BadTree", shown, told)

    def test_some_thousands_deep(self):
        for deep in (30, 31, 900, 2000, 5000):
            for told in (nested(deep), nested(deep, lambda at: "side")):
                refuse(self, "BadTree", shown, told)

    def test_what_is_handed_in_stays(self):
        handed = ["join", [0, 1]]
        refuse(self, "BadTree", shown, handed)
        refuse(self, "BadText", read, handed)
        self.assertEqual(handed, ["join", [0, 1]])


class BadTexts(unittest.TestCase):
    def refused(self, *rows):
        for text in rows:
            with self.subTest(text=text[:60]):
                refuse(self, "BadText", read, text)

    def none_but_its_own(self, text):
        """Where the text is read at all, it is the text of what is read."""
        try:
            told = read(text)
        except BadText:
            refuse(self, "BadText", read, text)
            return False
        self.assertEqual((tree_by(told).told(), written(told), shown(told)), (told, text, text))
        return True

    def test_a_sign_put_in_left_out_or_exchanged_at_each_place(self):
        source = samples_of(82)
        rows = [text for _, text in WRITTEN[:18]]
        rows += [shown(random_told(source, random_points(source, source.randint(2, 30)))) for _ in range(6)]
        for text in rows:
            for at in range(len(text) + 1):
                if at < len(text):
                    self.none_but_its_own(without(text, at))
                for sign in SIGNS:
                    self.none_but_its_own(put_in(text, at, sign))
                    if at < len(text):
                        self.none_but_its_own(exchanged(text, at, sign))

    def test_such_steps_that_leave_no_text_of_a_tree(self):
        text = "(0 | (1 & 2 & 5) | 3)"
        figures = [at for at in range(len(text)) if text[at].isdigit()]
        for at in range(len(text)):
            self.refused(without(text, at))
            for sign in SIGNS:
                if at not in figures or sign not in "0123456789":
                    if sign != text[at]:
                        self.refused(exchanged(text, at, sign))
                if sign not in "0123456789":
                    self.refused(put_in(text, at, sign))
        self.refused(*[put_in(text, len(text), sign) for sign in SIGNS])

    def test_each_text_cut_short_and_each_end_of_it(self):
        for text in ("(0 | (1 & 2 & 5) | 3)", "((0 | 12) & (1 | 2))", shown(LONG_LAST), shown(LONG_FIRST)):
            for at in range(1, len(text)):
                self.refused(text[:at])
                self.assertIs(self.none_but_its_own(text[at:]), False)

    def test_other_blanks_and_none(self):
        self.refused("", " ", "   ", "\n", "\t", "\u00a0", " " * 4000, "\n" * 4000)
        self.refused("(0|1)", "(0 |1)", "(0| 1)", "(0  | 1)", "(0 |  1)", "( 0 | 1)", "(0 | 1 )", " (0 | 1)",
                     "(0 | 1) ", "(0 | 1)\n", "\n(0 | 1)", "(0\t|\t1)", "(0\n|\n1)", "(0\u00a0|\u00a01)",
                     "(0\u2003|\u20031)", "(0 | 1)\0", "(0 | 1)\r\n", " 0", "0 ", "0\n", "( 0)", "(0 1)", "0 1",
                     "(0 | 1& 2)", "1 0", "2 9", "(2 9 | 3)", "(0 &| 1)")

    def test_figures_and_numbers(self):
        self.refused("00", "01", "05", "007", "010", "029", "(00 | 1)", "(0 | 01)", "(0 | (01 & 2))", "(0 | 029)")
        self.refused("30", "31", "99", "100", "290", "291", "1000", "9" * 4000, "1" + "0" * 999, "0" * 4000,
                     "(0 | 30)", "(0 & 100)", "(28 | 290)", "(0 | (1 & 30))", "(0 | " + "9" * 3000 + ")",
                     "2" * 5000)
        self.refused("-1", "-0", "+0", "+1", "--1", "(0 | +1)", "(-0 | 1)", "(0 | -1)", "(-1 | 0)", "0-", "1+")
        self.refused("0.0", "1.", "1e0", "1_0", "_1", "0x1", "0b1", "0o7", "1L", "1,0", "(0 | 1_0)", "(0 | 1.0)")

    def test_figures_and_letters_of_other_scripts(self):
        for zero in ("\u0660", "\u06f0", "\u0966", "\u0be6", "\uff10", "\U0001d7ce", "\u0e50"):
            one = chr(ord(zero) + 1)
            self.refused(zero, one, one + one, "1" + zero, one + "0", "(" + zero + " | 1)", "(0 | " + one + ")",
                         "(0 & (1 | " + chr(ord(zero) + 2) + "))")
        self.refused("\u00b2", "\u2461", "\u4e00", "\u2167", "(0 | \u00b9)", "\u00bd", "(0 \u2223 1)", "(0 \uff06 1)",
                     "(0 \uff5c 1)", "\uff080 | 1\uff09", "\ud800", "\udfff", "(0 | \ud83d)", "a", "A", "o", "O", "l",
                     "side", "join", "None", "True", "\u0430", "(a | b)", "(0 or 1)", "(0 and 1)", "0\u0301",
                     "\ufeff0", "0\u200b", "\u202e0")

    def test_brackets(self):
        self.refused("(", ")", "()", "( )", "(())", ")(", "((", "))", "(0", "0)", "(0)", "((0))", "(29)", "((0 | 1))",
                     "(((0 | 1)))", "((0) | 1)", "(0 | (1))", "(0 | ())", "(() | 0)", "0 | 1", "0 & 1", "(0 | 1",
                     "0 | 1)", "(0 | 1))", "((0 | 1)", "(0 | (1 & 2)", "(0 | 1 & 2))", "((0 | 1) & 2", "(0 | 1)(2 | 3)",
                     "(0 | 1) & 2", "0 & (1 | 2)", "[0 | 1]", "{0 | 1}", "<0 | 1>", "(0 | [1 & 2])", "(0 | 1]")

    def test_signs_without_a_part(self):
        self.refused("|", "&", " | ", " & ", "( | )", "( & )", "(0 | )", "( | 0)", "(0 |  | 1)", "(0 |  & 1)",
                     "(0 | | 1)", "(0 || 1)", "(0 && 1)", "(0 | & 1)", "( | 0 | 1)", "(0 | 1 | )", "(0 & 1 & )",
                     "( & 0 & 1)", "(0 | 1 |)", "(| 0 | 1)", "(0 |)", "(& 0)")

    def test_other_words_between(self):
        self.refused("(0 + 1)", "(0 , 1)", "(0, 1)", "(0 \\ 1)", "(0 / 1)", "(0 ! 1)", "(0 I 1)", "(0 - 1)", "(0 . 1)",
                     "(0   1)", "(0 ; 1)", "(0 \u00a6 1)", str(EXAMPLE), str(("side", (0, 1))), "(0 (1 & 2))")

    def test_a_side_and_a_join_mixed_within_one_pair(self):
        self.refused("(0 | 1 & 2)", "(0 & 1 | 2)", "(0 | 1 | 2 & 3)", "(0 & (1 | 2) | 3)", "(0 | (1 & 2 | 3))",
                     "(0 | (1 & 2) & 3)", "((0 | 1 & 2) & 3)")

    def test_a_word_right_within_the_same_word(self):
        self.refused("(0 | (1 | 2))", "((0 | 1) | 2)", "(0 & (1 & 2))", "((0 & 1) & 2)", "(0 | (1 & (2 & 3)))",
                     "((0 | 1) | (2 | 3))", "(0 & (1 | (2 | 3)))", "(0 | 1 | (2 | 3))", "((0 & 1) | (2 | 3))")

    def test_parts_that_do_not_rise(self):
        self.refused("(1 | 0)", "(1 & 0)", "(10 | 9)", "(0 | 2 | 1)", "(0 | (2 & 1))", "((1 & 2) | 0)", "(1 | (0 & 2))",
                     "((1 | 3) & (0 | 2))", "(0 & 3 & 1)", "(2 | (3 & 4) | 1)", "(0 | (1 & (3 | 2)))", "(29 | 3)")

    def test_a_point_twice(self):
        self.refused("(0 | 0)", "(0 & 0)", "(0 | 1 | 1)", "(0 | (0 & 1))", "((0 & 1) | 1)", "((0 | 2) & (1 | 2))",
                     "(0 | (1 & 1))", "((0 & 9) | (1 & 9))", "(" + " | ".join(["0"] * 500) + ")")

    def test_something_behind_or_ahead(self):
        for text in ("0", "29", "(0 | 1)", "(0 | (1 & 2 & 5) | 3)"):
            for more in (" ", "\n", "(", ")", "|", " | ", "&", "x", "\0", " 5", ")" * 3000, "()", " | 29)", "(28 & 29)",
                         text, " " + text, ".", "\u00a0"):
                self.assertIs(self.none_but_its_own(text + more), False)
                self.assertIs(self.none_but_its_own(more + text), False)

    def test_thousands_of_brackets(self):
        for many in (28, 29, 30, 31, 100, 998, 1000, 2000, 3999, 4000, 5000):
            self.refused("(" * many, ")" * many, "()" * (many // 2), "(" * many + "0", "(" * many + "0" + ")" * many,
                         "(0 | " * (many // 5), "(0 | (1 & " * (many // 10), "(" * (many // 2) + ")" * (many // 2),
                         "0" + " | (0" * (many // 5), "(0 & " * many + "1" + ")" * many)
        for many in (30, 40, 200, 500, 3000):
            text = "29"
            for at in range(many):
                text = "(" + str(at % 29) + (" & " if at % 2 else " | ") + text + ")"
            self.refused(text)

    def test_long_texts(self):
        for piece in ("0 | ", "(0 | 1) | ", "0", "9", " ", "|", "& ", "(0 & 1)", "a", "\u0661", "\n"):
            self.refused(piece * (4000 // len(piece)), "(" + piece * (3998 // len(piece)) + ")",
                         "(0 | " + piece * (3900 // len(piece)), "(0 | 1" + piece * (3900 // len(piece)) + ")")

    def test_points_one_more_than_there_are(self):
        self.refused("(" + " | ".join(map(str, range(31))) + ")", "(" + " & ".join(map(str, range(31))) + ")")
        self.refused("(" + shown(LONG_LAST) + " | 30)", "(" + shown(LONG_LAST) + " | 29)")

    def test_what_is_no_text(self):
        for odd in odd_things() + TREES + DEEP:
            if not isinstance(odd, str):
                refuse(self, "BadText", read, odd)
        for odd in (b"0", b"(0 | 1)", ["(0 | 1)"], ("0",), {"0": "0"}, 0, 29, 30, FIGURES, -FIGURES, 1.0, ["0"], [0]):
            refuse(self, "BadText", read, odd)

    def test_texts_among_the_odd_things(self):
        for odd in odd_things():
            if isinstance(odd, str):
                self.assertIs(self.none_but_its_own(odd), odd in ("0", "1", "(0 | 1)"))

    def test_a_refusal_changes_nothing(self):
        self.assertEqual(read("(0 | 1)"), ("side", (0, 1)))
        self.refused("(0 | 1", "(1 | 0)")
        self.assertEqual(read("(0 | 1)"), ("side", (0, 1)))
        self.assertEqual(sorted(points_in(read("(0 | (1 & 2 & 5) | 3)"))), [0, 1, 2, 3, 5])


if __name__ == "__main__":
    unittest.main()
