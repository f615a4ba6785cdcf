"""Promises 2 and 11: what is a number, a name, a text, a worth, and what says yes."""

import unittest

from innerlook.errors import NoWorth
from innerlook.worths import is_name, is_text, is_whole, is_worth, says_yes
from checks import PERCENT, STRANGE_THINGS, Checks, nested, row


class Numbers(unittest.TestCase):

    def test_bounds_are_counted_on_both_sides(self):
        for number in (-3, 0, 2, 5):
            self.assertIs(is_whole(number, -3, 5), True)
        for number in (-4, 6, -10 ** 29, 10 ** 29):
            self.assertIs(is_whole(number, -3, 5), False)
        self.assertIs(is_whole(7, 7, 7), True)

    def test_nothing_is_where_low_is_the_greater_one(self):
        for number in (0, 1, 2, 3, 4):
            self.assertIs(is_whole(number, 3, 1), False)

    def test_truths_are_no_numbers(self):
        self.assertIs(is_whole(True, 0, 1), False)
        self.assertIs(is_whole(False, 0, 1), False)

    def test_other_things_are_none(self):
        for thing in ("1", "", None, (), [], {}, (1,), [1], {1: 1}, b"1"):
            self.assertIs(is_whole(thing, -5, 5), False)

    def test_great_bounds(self):
        self.assertIs(is_whole(10 ** 29, 10 ** 29, 10 ** 29 + 1), True)
        self.assertIs(is_whole(10 ** 29 - 1, 10 ** 29, 10 ** 29 + 1), False)

    def test_by_names(self):
        self.assertIs(is_whole(high=3, low=1, thing=2), True)
        self.assertIs(is_whole(high=3, low=1, thing=0), False)


class Names(unittest.TestCase):

    def test_one_to_eight_small_letters(self):
        for many in range(1, 9):
            self.assertIs(is_name("z" * many), True)
            self.assertIs(is_name("abcdefgh"[:many]), True)
        self.assertIs(is_name(""), False)
        self.assertIs(is_name("a" * 9), False)
        self.assertIs(is_name("a" * 100), False)

    def test_every_small_letter_and_no_other_sign(self):
        letters = "abcdefghijklmnopqrstuvwxyz"
        for number in list(range(0, 300)) + [0x3b1, 0x430, 0xff41]:
            sign = chr(number)
            self.assertIs(is_name(sign), sign in letters, number)
            self.assertIs(is_name("a" + sign), sign in letters, number)
            self.assertIs(is_name(sign + "a"), sign in letters, number)

    def test_three_words_are_none(self):
        for word in ("me", "here", "none"):
            self.assertIs(is_name(word), False)
            self.assertIs(is_name(word + "s"), True)
            self.assertIs(is_name(word.upper()), False)
        self.assertIs(is_name("mehere"), True)

    def test_words_of_the_program_are_names(self):
        for word in ("all", "kinds", "deeds", "frames", "row", "thing", "by", "let", "true"):
            self.assertIs(is_name(word), True)

    def test_other_things_are_none(self):
        for thing in (None, True, 0, 1, (), ("a",), ["a"], {"a": 1}, b"a"):
            self.assertIs(is_name(thing), False)

    def test_by_name(self):
        self.assertIs(is_name(thing="a"), True)


class Texts(unittest.TestCase):

    def test_at_most_sixty_signs(self):
        for many in (0, 1, 59, 60):
            self.assertIs(is_text("x" * many), True)
        for many in (61, 100, 5000):
            self.assertIs(is_text("x" * many), False)

    def test_signs_from_the_blank_to_the_tilde_but_two(self):
        for number in list(range(0, 300)) + [0x2019, 0x10ffff]:
            sign = chr(number)
            good = 32 <= number <= 126 and sign not in (PERCENT, "'")
            self.assertIs(is_text(sign), good, number)
            self.assertIs(is_text("ab" + sign), good, number)
            self.assertIs(is_text(sign + "ab"), good, number)

    def test_other_things_are_none(self):
        for thing in (None, True, 0, (), ("a",), ["a"], {"a": 1}, b"a"):
            self.assertIs(is_text(thing), False)

    def test_by_name(self):
        self.assertIs(is_text(thing="A 1"), True)


class Worths(unittest.TestCase):

    def test_each_sort(self):
        for thing in (0, 1, -1, 10 ** 9, -10 ** 9, "", "a b", "~", "x" * 60, None, ("thing", 0), ("thing", 999),
                      ("row", ()), row(1, "a", None, ("thing", 5)), row(row(), row(row(1)))):
            self.assertIs(is_worth(thing), True, thing)

    def test_what_is_none(self):
        for thing in STRANGE_THINGS:
            self.assertIs(is_worth(thing), False, thing)
            self.assertIs(is_worth(row(thing)), False, thing)
            self.assertIs(is_worth(row(1, thing)), False, thing)
            self.assertIs(is_worth(row(row(1, thing), 1)), False, thing)

    def test_bounds_of_numbers(self):
        for number in (10 ** 9, -10 ** 9):
            self.assertIs(is_worth(number), True)
        for number in (10 ** 9 + 1, -10 ** 9 - 1):
            self.assertIs(is_worth(number), False)

    def test_bounds_of_things(self):
        for number in range(-2, 1003):
            self.assertIs(is_worth(("thing", number)), 0 <= number <= 999, number)
        self.assertIs(is_worth(("thing", True)), False)
        self.assertIs(is_worth(("thing", False)), False)

    def test_rows_within_one_another(self):
        for levels in range(1, 5):
            self.assertIs(is_worth(nested(levels)), True, levels)
            self.assertIs(is_worth(nested(levels, (1, "a", ("thing", 1), None))), True, levels)
        for levels in (5, 6, 20):
            self.assertIs(is_worth(nested(levels)), False, levels)
        self.assertIs(is_worth(row(1, nested(3), nested(3))), True)
        self.assertIs(is_worth(row(1, nested(3), nested(4))), False)

    def test_parts(self):
        self.assertIs(is_worth(row(*range(30))), True)
        self.assertIs(is_worth(row(*range(31))), False)
        self.assertIs(is_worth(row(row(*range(30)), row(*range(30)))), True)
        self.assertIs(is_worth(row(row(*range(30)), row(*range(31)))), False)

    def test_a_list_in_the_place_of_a_tuple(self):
        for thing in (["thing", 1], ["row", ()], ("row", []), ("row", [1]), row(["row", ()]), row(("row", []))):
            self.assertIs(is_worth(thing), False, thing)

    def test_what_is_deep(self):
        deep = []
        for _ in range(20):
            deep = [deep]
        self.assertIs(is_worth(deep), False)

    def test_by_name(self):
        self.assertIs(is_worth(thing=None), True)


class SaysYes(Checks, unittest.TestCase):

    def test_all_but_nought_and_none(self):
        for worth in (1, -1, 10 ** 9, "", "0", "none", ("thing", 0), ("row", ()), row(0), row(None)):
            self.assertIs(says_yes(worth), True, worth)
        for worth in (0, None):
            self.assertIs(says_yes(worth), False, worth)

    def test_what_is_no_worth(self):
        for thing in STRANGE_THINGS:
            self.refused(NoWorth, thing, says_yes, thing)

    def test_by_name(self):
        self.assertIs(says_yes(worth=0), False)
        thing = [1]
        self.refused(NoWorth, thing, says_yes, worth=thing)


if __name__ == "__main__":
    unittest.main()
