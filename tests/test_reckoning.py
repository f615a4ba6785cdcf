"""Promises 13 and 14: numbers, rows and their parts, dicts of rows, things in worths."""

import copy
import unittest

from innerlook.errors import Fault, NoRows, NoWorth
from innerlook.worths import added, are_rows, lesser, moved, part_of, parts_of, taken, things_in
from checks import STRANGE_THINGS, Checks, names, nested, row

MOST = 10 ** 9
NO_NUMBERS = ("", "1", None, ("thing", 1), ("row", ()), row(1))
NO_ROWS = (0, 1, "", "row", None, ("thing", 1))


class Reckoned(Checks, unittest.TestCase):

    def test_sums(self):
        for one, other, worth in ((1, 2, 3), (0, 0, 0), (5, -7, -2), (MOST, 0, MOST), (MOST - 1, 1, MOST),
                                  (-MOST, 0, -MOST), (1 - MOST, -1, -MOST), (MOST, -MOST, 0)):
            self.assertEqual(added(one, other), worth)
            self.assertEqual(added(other=other, one=one), worth)

    def test_differences(self):
        for one, other, worth in ((1, 2, -1), (0, 0, 0), (5, -7, 12), (MOST, 0, MOST), (MOST - 1, -1, MOST),
                                  (-MOST, 0, -MOST), (1 - MOST, 1, -MOST), (MOST, MOST, 0)):
            self.assertEqual(taken(one, other), worth)
            self.assertEqual(taken(other=other, one=one), worth)

    def test_less(self):
        for one, other, worth in ((1, 2, 1), (2, 1, 0), (1, 1, 0), (-2, -1, 1), (-MOST, MOST, 1), (MOST, -MOST, 0)):
            found = lesser(one, other)
            self.assertEqual(found, worth)
            self.assertIs(found.__class__, int)
            self.assertEqual(lesser(other=other, one=one), worth)

    def test_what_comes_beyond_the_bounds(self):
        self.faulty(Fault, "far", MOST + 1, added, MOST, 1)
        self.faulty(Fault, "far", -MOST - 1, added, -1, -MOST)
        self.faulty(Fault, "far", 2 * MOST, added, MOST, MOST)
        self.faulty(Fault, "far", MOST + 1, taken, MOST, -1)
        self.faulty(Fault, "far", -MOST - 1, taken, -MOST, 1)
        self.faulty(Fault, "far", -2 * MOST, taken, -MOST, MOST)

    def test_the_first_that_is_no_number(self):
        for call in (added, taken, lesser):
            for thing in NO_NUMBERS:
                for found in (self.faulty(Fault, "wrong", thing, call, thing, 1),
                              self.faulty(Fault, "wrong", thing, call, 1, thing),
                              self.faulty(Fault, "wrong", thing, call, MOST, thing),
                              self.faulty(Fault, "wrong", thing, call, thing, "other")):
                    self.assertIs(found.found, thing)
            self.faulty(Fault, "wrong", "one", call, "one", "other")
            self.faulty(Fault, "wrong", "other", call, other="other", one=1)

    def test_worths_are_looked_at_ahead_of_that(self):
        for call in (added, taken, lesser):
            for thing in STRANGE_THINGS:
                self.refused(NoWorth, thing, call, thing, 1)
                self.refused(NoWorth, thing, call, 1, thing)
                self.refused(NoWorth, thing, call, "no number", thing)
                self.refused(NoWorth, thing, call, thing, "no number")
            one, other = [1], [2]
            self.refused(NoWorth, one, call, one, other)
            self.refused(NoWorth, one, call, other=other, one=one)


class Parts(Checks, unittest.TestCase):

    def test_parts(self):
        for worth in (row(), row(1), row(1, "a", None, ("thing", 3), row(2)), nested(4)):
            self.assertEqual(parts_of(worth), worth[1])
            self.assertIs(parts_of(row=worth).__class__, tuple)

    def test_the_part_of_a_number(self):
        parts = tuple(range(100, 130))
        for at in range(30):
            self.assertEqual(part_of(("row", parts), at), 100 + at)
        self.assertEqual(part_of(at=1, row=row(1, row(2))), row(2))
        self.assertIs(part_of(row(None), 0), None)

    def test_what_is_no_row(self):
        for thing in NO_ROWS:
            self.assertIs(self.faulty(Fault, "wrong", thing, parts_of, thing).found, thing)
            for at in (0, 5, "no number", None, row()):
                self.assertIs(self.faulty(Fault, "wrong", thing, part_of, thing, at).found, thing)

    def test_what_is_no_number(self):
        for thing in NO_NUMBERS:
            for worth in (row(), row(1, 2)):
                self.assertIs(self.faulty(Fault, "wrong", thing, part_of, worth, thing).found, thing)

    def test_no_such_part(self):
        for worth, at in ((row(), 0), (row(1), 1), (row(1), -1), (row(1, 2), 2), (row(1, 2), -2), (row(1), MOST),
                          (row(*range(30)), 30)):
            self.faulty(Fault, "lacks", at, part_of, worth, at)

    def test_worths_are_looked_at_ahead_of_that(self):
        for thing in STRANGE_THINGS:
            self.refused(NoWorth, thing, parts_of, thing)
            self.refused(NoWorth, thing, part_of, thing, 0)
            self.refused(NoWorth, thing, part_of, thing, "no number")
            self.refused(NoWorth, thing, part_of, row(1), thing)
            self.refused(NoWorth, thing, part_of, "no row", thing)
        one, other = [1], [2]
        self.refused(NoWorth, one, part_of, at=other, row=one)


class Rows(Checks, unittest.TestCase):

    def test_names_to_worths(self):
        for thing in ({}, {"a": 1}, {"b": None, "a": row(("thing", 1))}, {"abcdefgh": "x" * 60}):
            self.assertIs(are_rows(thing), True)

    def test_at_most_thirty(self):
        for many in (0, 1, 29, 30):
            self.assertIs(are_rows({name: 1 for name in names(many)}), True)
        for many in (31, 100):
            self.assertIs(are_rows({name: 1 for name in names(many)}), False)

    def test_what_is_no_name(self):
        for name in ("", "A", "me", "here", "none", "a" * 9, "a1", 1, 0, "a b"):
            self.assertIs(are_rows({name: 1}), False, name)
            self.assertIs(are_rows({"a": 1, name: 1}), False, name)

    def test_what_is_no_worth(self):
        for thing in STRANGE_THINGS:
            self.assertIs(are_rows({"a": thing}), False, thing)
            self.assertIs(are_rows({"a": 1, "b": thing, "c": 1}), False, thing)

    def test_what_is_no_dict(self):
        for thing in (None, True, 0, "", "a", (), [], ("a", 1), [("a", 1)], (("a", 1),), ["a"], ("row", ())):
            self.assertIs(are_rows(thing), False, thing)

    def test_by_name(self):
        self.assertIs(are_rows(thing={}), True)


class Things(Checks, unittest.TestCase):

    def test_in_their_first_order_each_once(self):
        two, five, nought = ("thing", 2), ("thing", 5), ("thing", 0)
        for worth, numbers in ((1, []), (None, []), ("#1", []), ("thing", []), (row(), []), (five, [5]), (nought, [0]),
                               (row(five, two), [5, 2]), (row(two, five, two), [2, 5]),
                               (row(1, row(five, row(two, five)), nought, two), [5, 2, 0]),
                               (row(row(row(row(five, 7, nought, five)))), [5, 0]),
                               (row(7, row("row", 3), row("thing", 4)), [])):
            found = things_in(worth)
            self.assertEqual(found, numbers)
            self.assertIs(found.__class__, list)
        self.assertEqual(things_in(worth=row(two)), [2])

    def test_a_new_list_each_time(self):
        worth = row(("thing", 1), ("thing", 2))
        found = things_in(worth)
        found.append(3)
        self.assertEqual(things_in(worth), [1, 2])

    def test_what_is_no_worth(self):
        for thing in STRANGE_THINGS:
            self.refused(NoWorth, thing, things_in, thing)


class Moved(Checks, unittest.TestCase):

    def test_things_are_put_otherwise(self):
        one, two, three = ("thing", 1), ("thing", 2), ("thing", 3)
        for worth, numbers, expected in (
                (one, {1: 2}, two), (one, {2: 1}, one), (one, {}, one), (("thing", 0), {0: 999}, ("thing", 999)),
                (("thing", 999), {999: 0}, ("thing", 0)), (1, {1: 2}, 1), (None, {1: 2}, None), ("#1", {1: 2}, "#1"),
                (row(one, two, three), {1: 2, 2: 1}, row(two, one, three)),
                (row(one, row(one, row(one, row(one, 1)))), {1: 3}, row(three, row(three, row(three, row(three, 1))))),
                (row(one, two), {1: 2, 2: 3}, row(two, three)), (row(), {1: 2}, row()),
                (row(one, "a", None, 1), {1: 1, 500: 600}, row(one, "a", None, 1)),
                (row(one, two), {1: 3, 2: 3}, row(three, three))):
            self.assertEqual(moved(worth, numbers), expected)
            self.assertEqual(moved(numbers=numbers, worth=worth), expected)

    def test_what_is_handed_in_stays_as_it_was(self):
        worth, numbers = row(("thing", 1), row(("thing", 2))), {1: 2, 2: 1}
        before = copy.deepcopy((worth, numbers))
        moved(worth, numbers)
        self.assertEqual((worth, numbers), before)

    def test_what_is_no_worth(self):
        for thing in STRANGE_THINGS:
            self.refused(NoWorth, thing, moved, thing, {})
            self.refused(NoWorth, thing, moved, thing, "no rows")

    def test_what_is_no_dict_of_numbers(self):
        for thing in (None, True, 0, "", (), [], [(1, 2)], ((1, 2),), {"a": 1}, {1: "a"}, {1: None}, {1: True},
                      {True: 1}, {-1: 1}, {1: -1}, {1000: 1}, {1: 1000}, {1: ("thing", 1)}, {1: 2, 2: "a"},
                      {1: 2, "a": 2}, {"": ""}, {1: []}):
            for worth in (1, ("thing", 1), row()):
                self.refused(NoRows, thing, moved, worth, thing)


if __name__ == "__main__":
    unittest.main()
