"""Promise 33: calls by which two rows of parameters are told apart."""

import copy
import itertools
import unittest

from checks import Checks, names
from innerlook.errors import NoParams
from innerlook.params import matched, parting_call, shows_parting, takes

A, B = ("by", "a"), ("by", "b")
NO_PARAMS = (None, True, 0, "", "()", [], {}, [A], (1,), (A, A), (("only", "b"), A), (("or", "a", ("row", ())),))


def small_rows(letters, most):
    """All rows of at most so many of these names, in their order and turned round."""
    kinds = [lambda name: ("by", name), lambda name: ("or", name, 1), lambda name: ("rest", name),
             lambda name: ("only", name), lambda name: ("onlyor", name, 1)]
    for many in range(most + 1):
        for chosen in itertools.permutations(letters, many):
            for words in itertools.combinations_with_replacement(range(5), many):
                if words.count(2) < 2:
                    yield tuple(kinds[word](name) for word, name in zip(words, chosen))


def calls(letters, most):
    """All calls of at most so many args and of some of these names."""
    for many in range(most + 1):
        for size in range(len(letters) + 1):
            for chosen in itertools.combinations(letters, size):
                yield many, list(chosen)


def taken_calls(params, letters, most):
    return [takes(params, many, chosen) for many, chosen in calls(letters, most)]


class Parting(Checks, unittest.TestCase):

    def is_parting(self, one, other, call):
        self.assertIs(call.__class__, tuple)
        many, called = call
        self.assertIs(many.__class__, int)
        self.assertIs(called.__class__, list)
        self.assertTrue(0 <= many <= 20)
        self.assertNotEqual(takes(one, many, called), takes(other, many, called), (one, other, call))
        self.assertIs(shows_parting(one, other, call), True)
        self.assertIs(shows_parting(other, one, call), True)

    def test_a_call_is_told_just_where_one_parts_them(self):
        rows = list(small_rows("ab", 2)) + [row for row in small_rows("abc", 3) if len(row) == 3][::7]
        taken = [taken_calls(row, "abc", 5) for row in rows]
        for (one, first), (other, second) in itertools.product(list(zip(rows, taken)), repeat=2):
            call = parting_call(one, other)
            if first == second:
                self.assertIs(call, None, (one, other))
            else:
                self.is_parting(one, other, call)

    def test_rows_that_differ_but_in_own_worths_take_the_same_calls(self):
        one = (A, ("or", "b", 1), ("rest", "c"), ("only", "d"), ("onlyor", "e", None))
        other = (A, ("or", "b", "x"), ("rest", "c"), ("only", "d"), ("onlyor", "e", 5))
        self.assertIs(parting_call(one, other), None)
        self.assertIs(parting_call(one, one), None)
        self.assertIs(parting_call((), ()), None)

    def test_rows_that_take_the_same_calls_all_the_same(self):
        self.assertIs(parting_call((("only", "a"), ("onlyor", "b", 1)), (("onlyor", "b", 1), ("only", "a"))), None)
        self.assertIs(parting_call((A, ("rest", "c")), (A, ("rest", "b"))), None)

    def test_rows_that_differ_late(self):
        six = tuple(("by", name) for name in "abcdef")
        for one, other in ((six, six[:5] + (("or", "f", 1),)), (six[:5], six[:5] + (("rest", "f"),)),
                           (six, six[:4] + (("by", "f"), ("by", "e"))), (six, six[:5]),
                           (six[:5], six[:5] + (("only", "f"),)),
                           (six[:5], six[:5] + (("onlyor", "f", 1),)), ((), (("rest", "a"),)), (six, six[::-1]),
                           (tuple(("or", name, 1) for name in "abcdef"),
                            tuple(("or", name, 1) for name in "abcde") + (("onlyor", "f", 1),)),
                           (tuple(("or", name, 1) for name in "abcdef"),
                            tuple(("or", name, 1) for name in "abcde") + (("rest", "f"),)),
                           (tuple(("onlyor", name, 1) for name in "abcdef"),
                            tuple(("onlyor", name, 1) for name in "uvwxyz")),
                           (tuple(("only", name) for name in "abcdef"), tuple(("only", name) for name in "uvwxyz"))):
            self.is_parting(one, other, parting_call(one, other))
            self.is_parting(other, one, parting_call(other, one))

    def test_by_names(self):
        self.is_parting((A,), (B,), parting_call(other=(B,), one=(A,)))

    def test_refusals_in_the_order_of_the_arguments(self):
        for thing in NO_PARAMS:
            self.refused(NoParams, thing, parting_call, thing, (A,))
            self.refused(NoParams, thing, parting_call, (A,), thing)
            self.refused(NoParams, thing, parting_call, thing, [])
            self.refused(NoParams, thing, shows_parting, thing, (A,), None)
            self.refused(NoParams, thing, shows_parting, (A,), thing, None)
            self.refused(NoParams, thing, shows_parting, thing, [], (0, []))
        one, other = [A], [B]
        self.refused(NoParams, one, parting_call, other=other, one=one)
        self.refused(NoParams, one, shows_parting, thing=None, other=other, one=one)

    def test_what_was_told_is_new_each_time(self):
        call = parting_call((A, B), ())
        before = copy.deepcopy(call)
        call[1].append("changed")
        self.assertEqual(parting_call((A, B), ()), before)


class Shows(Checks, unittest.TestCase):

    def test_just_the_calls_that_part(self):
        rows = list(small_rows("ab", 2))[::3]
        for one, other in itertools.product(rows, repeat=2):
            for many, called in calls("abx", 4):
                expected = takes(one, many, called) != takes(other, many, called)
                self.assertIs(shows_parting(one, other, (many, called)), expected)

    def test_names_may_be_a_tuple_but_the_call_no_list(self):
        self.assertIs(shows_parting((A,), (), (1, [])), True)
        self.assertIs(shows_parting((A,), (), (1, ())), True)
        self.assertIs(shows_parting((A,), (), [1, []]), False)
        self.assertIs(shows_parting(thing=(0, ("a",)), other=(), one=(A,)), True)

    def test_what_is_no_call(self):
        one, other = (A, ("rest", "b")), ()
        self.assertIs(shows_parting(one, other, (20, [])), True)
        for thing in (None, True, 0, "", (), [], {}, (1,), (1, [], 1), (1, None), (1, "a"), (1, {}), (1, 1), ("1", []),
                      (None, []), (True, []), (False, []), (-1, []), (21, []), (10 ** 29, []), ([], 1), (1, [1]),
                      (0, ["a", "a"]), (0, ["A"]), (0, [["a"]]), (0, [{}]), (0, ["me"]), ((1, []),), {1: []}):
            self.assertIs(shows_parting(one, other, thing), False, thing)
            self.assertIs(shows_parting(other, one, thing), False, thing)

    def test_the_names_are_at_most_thirty(self):
        # A row takes six names at most, so more of them part nothing, nor is anything refused.
        one = (("onlyor", "naa", 1),)
        for many in (1, 2, 30, 31, 100):
            self.assertIs(shows_parting(one, (), (0, names(many))), many == 1)

    def test_what_is_handed_in_stays_as_it_was(self):
        call = (0, ["b", "a"])
        shows_parting((A, B), (A,), call)
        self.assertEqual(call, (0, ["b", "a"]))
        self.assertEqual(matched((A, B), [], {"a": 1, "b": 2}), {"a": 1, "b": 2})


if __name__ == "__main__":
    unittest.main()
