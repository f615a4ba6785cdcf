"""Promise 12: worths as texts."""

import unittest

from innerlook.errors import NoText, NoWorth
from innerlook.worths import read_worth, worth_text
from checks import PERCENT, STRANGE_THINGS, Checks, nested, row

WRITTEN = (
    (0, "0"), (7, "7"), (-7, "-7"), (10, "10"), (100, "100"), (-100, "-100"),
    (10 ** 9, "1000000000"), (-10 ** 9, "-1000000000"), (999999999, "999999999"),
    ("", "''"), ("a", "'a'"), ("a b", "'a b'"), (" ", "' '"), ("none", "'none'"), ("]", "']'"), ("#1", "'#1'"),
    ("[1 2]", "'[1 2]'"), ("12", "'12'"), ("\"\\", "'\"\\'"), ("x" * 60, "'" + "x" * 60 + "'"),
    (None, "none"), (("thing", 0), "#0"), (("thing", 10), "#10"), (("thing", 999), "#999"),
    (row(), "[]"), (row(1), "[1]"), (row(1, 2), "[1 2]"), (row(None, "a b", ("thing", 3), -1), "[none 'a b' #3 -1]"),
    (row(row(), row(row(0))), "[[] [[0]]]"), (nested(4), "[[[[]]]]"), (nested(4, (1, None)), "[[[[1 none]]]]"),
    (row(*range(30)), "[" + " ".join(map(str, range(30))) + "]"),
    (row("'".replace("'", "]"), " "), "[']' ' ']"),
)

WRITES_NONE = (
    "", " ", "00", "01", "-0", "-01", "007", "-", "--1", "+1", "1.0", "1_0", "1e3", "0x1", "1 ", " 1", "1 2", "12a",
    "1000000001", "-1000000001", "10000000000", "9" * 5000, "-" + "9" * 5000, "\u0661", "1\u0661", "\u00b2",
    "'", "'a", "a'", "''a", "'a''", "'a'b'", "'a' ", " 'a'", "\"a\"", "'" + PERCENT + "'", "'\n'", "'\x7f'",
    "'\u00e9'", "'" + "x" * 61 + "'", "a", "'a' 'b'",
    "None", "non", "nonee", "none ", " none", "no ne", "nonenone", "NONE",
    "#", "#-1", "#01", "#00", "#1000", "#1 ", "# 1", "##1", "#a", "#-0", "#none", "1#", "#" + "9" * 5000,
    "[", "]", "[1", "1]", "[[]", "[]]", "][", "[1]]", "[[1]", "[ ]", "[ 1]", "[1 ]", "[1  2]", "[1,2]", "[1, 2]",
    "[1\n2]", "[12", "[1 2", "[1 ", "[] ", " []", "[][]", "[[][]]", "[1[2]]", "[1'a']", "[01]", "[-0]", "[#01]",
    "['a]", "[1 True]", "[none none", "(1)", "('row', ())", "[[[[[]]]]]", "[[[[[1]]]]]", "[1 [[[[2]]]]]",
    "[" * 3000, "[" * 3000 + "]" * 3000, "[" + " ".join(map(str, range(31))) + "]",
    "[1 [" + " ".join(map(str, range(31))) + "]]", "True", "\n", "1\n", "\n1",
)

NO_TEXTS = (None, True, False, 0, 1, -5, (), [], {}, ("thing", 1), ("row", ()), ["1"], ("1",), {"1": 1}, b"1")


class Written(Checks, unittest.TestCase):

    def test_each_sort(self):
        for worth, text in WRITTEN:
            self.assertEqual(worth_text(worth), text)

    def test_what_is_no_worth(self):
        for thing in STRANGE_THINGS:
            self.refused(NoWorth, thing, worth_text, thing)

    def test_by_name(self):
        self.assertEqual(worth_text(worth=row(1)), "[1]")


class Read(Checks, unittest.TestCase):

    def test_each_sort(self):
        for worth, text in WRITTEN:
            found = read_worth(text)
            self.assertEqual(found, worth)
            self.assertIs(found.__class__, worth.__class__)

    def test_all_things_and_no_others(self):
        for number in range(1000):
            self.assertEqual(read_worth("#" + str(number)), ("thing", number))
        for number in (1000, 1001, 9999, 10 ** 9):
            text = "#" + str(number)
            self.refused(NoWorth, text, read_worth, text)

    def test_texts_that_write_none(self):
        for text in WRITES_NONE:
            self.refused(NoWorth, text, read_worth, text)

    def test_what_is_no_text(self):
        for thing in NO_TEXTS:
            self.refused(NoText, thing, read_worth, thing)

    def test_what_bends_a_text_bends_the_worth_or_is_refused(self):
        for _, text in WRITTEN:
            for at in range(len(text) + 1):
                for bent in (text[:at] + text[at + 1:], text[:at] + " " + text[at:], text[:at] + "0" + text[at:],
                             text[:at] + "[" + text[at:], text[:at] + "]" + text[at:]):
                    self.written_again_or_refused(bent)

    def written_again_or_refused(self, text):
        try:
            worth = read_worth(text)
        except NoWorth as error:
            self.assertIs(error.found, text)
        else:
            self.assertEqual(worth_text(worth), text)

    def test_what_is_great_is_read_as_it_was_written(self):
        great = row(*[row(*[row(*(["x" * 60] * 30)) for _ in range(30)]) for _ in range(10)])
        text = worth_text(great)
        self.assertGreater(len(text), 500000)
        self.assertEqual(read_worth(text), great)

    def test_by_name(self):
        self.assertEqual(read_worth(text="#5"), ("thing", 5))
        thing = ["x"]
        self.refused(NoText, thing, read_worth, text=thing)


if __name__ == "__main__":
    unittest.main()
