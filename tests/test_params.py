"""Promises 31 and 32: rows of parameters, what a call gives them, and how they are written."""

import copy
import itertools
import unittest

from checks import PERCENT, STRANGE_THINGS, Checks, names, nested, row
from innerlook.errors import Fault, NoList, NoNumber, NoParams, NoRows, NoText
from innerlook.params import is_params, matched, names_of, params_text, range_of, read_params, takes

# Parameters of each kind, told by the place of their kind.
KINDS = {
    "by": lambda name: ("by", name),
    "or": lambda name: ("or", name, 7),
    "rest": lambda name: ("rest", name),
    "only": lambda name: ("only", name),
    "onlyor": lambda name: ("onlyor", name, "seven"),
}
PLACES = {"by": 0, "or": 1, "rest": 2, "only": 3, "onlyor": 3}

A, B, C = ("by", "a"), ("by", "b"), ("by", "c")
EVERY = (A, B, ("or", "c", 3), ("rest", "d"), ("only", "e"), ("onlyor", "f", None))
EVERY_TEXT = "(a b c=3 d.. *e *f=none)"

NO_PARAMS = (
    None, True, 0, "", "()", [], {}, "(a)", [A], {"a": 1}, (A, "b"), ("by", "a"), A, (("by",),), (("by", "a", 1),),
    (["by", "a"],), (("or", "a"),), (("or", "a", 1, 2),), (("rest", "a", 1),), (("only", "a", 1),), (("onlyor", "a"),),
    (("onlyor", "a", 1, 2),), (("by", "A"),), (("by", ""),), (("by", "me"),), (("by", "here"),), (("by", "none"),),
    (("by", "abcdefghi"),), (("by", 1),), (("by", None),), (("by", ("a",)),), (("by", ["a"]),), (("other", "a"),),
    (("", "a"),), ((1, "a"),), ((None, "a"),), (([], "a"),), (({}, "a"),), (("By", "a"),), (("or", "a", ("thing", 1)),),
    (("or", "a", ("row", ())),), (("or", "a", True),), (("or", "a", []),), (("or", "a", 10 ** 9 + 1),),
    (("or", "a", -10 ** 9 - 1),), (("or", "a", "x" * 61),), (("or", "a", PERCENT),), (("or", "a", "'"),),
    (("onlyor", "a", ("thing", 1)),), (("onlyor", "a", row(1)),), (("onlyor", "a", False),), (("onlyor", "a", {}),),
    (A, A), (A, ("or", "a", 1)), (A, ("rest", "a")), (A, ("only", "a")), (A, ("onlyor", "a", 1)),
    (("only", "a"), ("only", "a")), (("or", "b", 1), A), (("rest", "b"), A), (("only", "b"), A),
    (("onlyor", "b", 1), A), (("rest", "a"), ("or", "b", 1)),
    (("only", "a"), ("or", "b", 1)), (("onlyor", "a", 1), ("or", "b", 1)), (("only", "a"), ("rest", "b")),
    (("onlyor", "a", 1), ("rest", "b")), (("rest", "a"), ("rest", "b")), ((), ), ((A,),), (1,),
    tuple(("by", name) for name in "abcdefg"), tuple(("only", name) for name in "abcdefg"),
)

WRITES_NONE = (
    "", " ", "(", ")", "a", "(a", "a)", "( )", " ()", "() ", "(a )", "( a)", "(a  b)", "(a,b)", "(a b",
    "(a b ", "(a b))", "((a b)", "(a)(b)", "(a=)", "(a=b)", "(a=True)", "(a =1)", "(a= 1)", "(a=1 )",
    "(a=01)", "(a=-0)", "(a='x)", "(a='x'b)", "(a=1b)", "(a=1=2)", "(a=1000000001)", "(a=#1)", "(a=[])",
    "(a=[1])", "(*a=#1)", "(*a=[])", "(a.)", "(a...)", "(a ..)", "(..)", "(a..=1)", "(a=1..)", "(*a..)",
    "(*)", "(**a)", "(* a)", "(a*)", "(*=1)", "(A)", "(a1)", "(me)", "(here)", "(none)", "(*me)", "(me..)",
    "(me=1)", "(abcdefghi)", "(a\nb)", "(a b)\n", "[a b]", "(a a)", "(a *a)", "(a a..)", "(a a=1)",
    "(a=1 b)", "(a.. b)", "(a.. b=1)", "(a.. b..)", "(*a b)", "(*a b..)", "(*a b=1)", "(*a=1 b..)",
    "(a b c d e f g)", "(a='" + "x" * 61 + "')", "(a='" + PERCENT + "')", "(by=a)", "(a=" + "9" * 5000 + ")",
    "(" * 3000, "(" + "a " * 2900 + "b)", "(\u00e9)", "(1)", "('a')", "=", "(=1)",
)


def rows_of_kinds(most):
    """Rows of none to so many parameters, in every order of the kinds, those that go and those that don't."""
    for many in range(most + 1):
        for words in itertools.product(KINDS, repeat=many):
            yield words, tuple(KINDS[word](name) for word, name in zip(words, "abcdefg"))


def goes(words):
    """Whether the kinds may stand in this order."""
    places = [PLACES[word] for word in words]
    return places == sorted(places) and words.count("rest") < 2


class Rows(unittest.TestCase):

    def test_every_order_of_all_kinds(self):
        for words, params in rows_of_kinds(5):
            self.assertIs(is_params(params), goes(words), words)

    def test_none_to_six(self):
        self.assertIs(is_params(()), True)
        self.assertIs(is_params(EVERY), True)
        for words in (("by",) * 6, ("or",) * 6, ("only",) * 6, ("onlyor",) * 6, ("by",) * 5 + ("rest",)):
            params = tuple(KINDS[word](name) for word, name in zip(words, "abcdef"))
            self.assertIs(is_params(params), True, words)
            self.assertIs(is_params(params + (("only", "g"),)), False, words)

    def test_what_is_none(self):
        for thing in NO_PARAMS:
            self.assertIs(is_params(thing), False, thing)
        for thing in STRANGE_THINGS:
            if thing != ():
                self.assertIs(is_params(thing), False, thing)

    def test_worths_as_of_a_lit(self):
        for worth in (0, 10 ** 9, -10 ** 9, "", "a b", "x" * 60, None):
            self.assertIs(is_params((("or", "a", worth), ("onlyor", "b", worth))), True)
        for worth in STRANGE_THINGS + (("thing", 1), ("row", ()), row(1)):
            self.assertIs(is_params((("or", "a", worth),)), False, worth)
            self.assertIs(is_params((("onlyor", "a", worth),)), False, worth)

    def test_each_name_once(self):
        for words, params in rows_of_kinds(3):
            if goes(words):
                for at, other in itertools.combinations(range(len(params)), 2):
                    doubled = list(params)
                    doubled[other] = (params[other][0], params[at][1]) + params[other][2:]
                    self.assertIs(is_params(tuple(doubled)), False, doubled)

    def test_by_name(self):
        self.assertIs(is_params(thing=EVERY), True)


class Matched(Checks, unittest.TestCase):

    def told(self, expected, params, args, named):
        found = matched(params, args, named)
        self.assertEqual(list(found.items()), list(expected.items()))
        self.assertIs(found.__class__, dict)

    def test_args_go_by_place(self):
        self.told({}, (), [], {})
        self.told({"a": 1, "b": "x"}, (A, B), [1, "x"], {})
        self.told({"a": 1, "b": ("thing", 5)}, (A, ("or", "b", 7)), [1, ("thing", 5)], {})
        self.told({"a": 1, "b": 7}, (A, ("or", "b", 7)), [1], {})
        self.told({"a": None, "b": None}, (("or", "a", 5), ("or", "b", None)), [None], {})

    def test_args_go_by_name_in_the_order_of_the_row(self):
        self.told({"a": 1, "b": 2}, (A, B), [], {"b": 2, "a": 1})
        self.told({"a": 1, "b": 2}, (A, B), [1], {"b": 2})
        self.told({"a": 1, "b": 7, "c": 3}, (A, ("or", "b", 7), ("or", "c", 8)), [1], {"c": 3})
        self.told({"a": 1, "b": 2, "c": 3}, (("only", "a"), ("onlyor", "b", 5), ("only", "c")), [],
                  {"c": 3, "b": 2, "a": 1})
        self.told({"a": 1, "b": 5, "c": None}, (("only", "a"), ("onlyor", "b", 5), ("onlyor", "c", None)), [],
                  {"a": 1})

    def test_what_is_left_over_goes_to_rest(self):
        params = (A, ("or", "b", 7), ("rest", "c"), ("only", "d"))
        self.told({"a": 1, "b": 7, "c": row(), "d": 0}, params, [1], {"d": 0})
        self.told({"a": 1, "b": 2, "c": row(), "d": 0}, params, [1, 2], {"d": 0})
        self.told({"a": 1, "b": 2, "c": row(3), "d": 0}, params, [1, 2, 3], {"d": 0})
        self.told({"a": 1, "b": 2, "c": row(3, None, row(5)), "d": 0}, params, [1, 2, 3, None, row(5)], {"d": 0})
        self.told({"a": row(*range(20))}, (("rest", "a"),), list(range(20)), {})
        self.told({"a": row()}, (("rest", "a"),), [], {})

    def test_all_kinds_together(self):
        self.told({"a": 1, "b": 2, "c": 3, "d": row(), "e": 5, "f": None}, EVERY, [1], {"e": 5, "b": 2})
        self.told({"a": 1, "b": 2, "c": 9, "d": row(4, 5), "e": 6, "f": 7}, EVERY, [1, 2, 9, 4, 5], {"f": 7, "e": 6})

    def test_args_may_be_a_tuple(self):
        self.told({"a": 1, "b": row(2)}, (A, ("rest", "b")), (1, 2), {})

    def test_by_names(self):
        self.assertEqual(matched(named={"b": 2}, args=[1], params=(A, B)), {"a": 1, "b": 2})

    def test_too_many(self):
        self.faulty(Fault, "many", 1, matched, (), [5], {})
        self.faulty(Fault, "many", 3, matched, (A, B), [5, 6, 7], {})
        self.faulty(Fault, "many", 2, matched, (A, ("only", "b")), [5, 6], {"b": 1})
        self.faulty(Fault, "many", 20, matched, (A, ("or", "b", 1), ("onlyor", "c", 1)), [0] * 20, {})
        self.told({"a": 5, "b": 6}, (A, ("or", "b", 1)), [5, 6], {})

    def test_a_rest_that_would_be_no_worth(self):
        params = (A, ("rest", "b"))
        self.told({"a": nested(4), "b": row()}, params, [nested(4)], {})
        self.told({"a": 1, "b": row(nested(3))}, params, [1, nested(3)], {})
        self.faulty(Fault, "many", 2, matched, params, [1, nested(4)], {})
        self.faulty(Fault, "many", 4, matched, params, [1, 2, nested(4), 3], {"other": 1})
        self.faulty(Fault, "many", 1, matched, (("rest", "a"),), [nested(4)], {})

    def test_strange_names(self):
        self.faulty(Fault, "strange", "b", matched, (A,), [1], {"b": 1})
        self.faulty(Fault, "strange", "b", matched, (), [], {"b": 1})
        self.faulty(Fault, "strange", "d", matched, EVERY, [1, 2], {"d": 1, "e": 1})
        self.faulty(Fault, "strange", "d", matched, EVERY, [1, 2, 3, 4], {"e": 1, "d": ("row", ())})
        self.faulty(Fault, "strange", "y", matched, EVERY, [1, 2], {"e": 1, "y": 1, "x": 1})

    def test_names_that_have_a_worth_by_place(self):
        self.faulty(Fault, "twice", "a", matched, (A,), [1], {"a": 1})
        self.faulty(Fault, "twice", "c", matched, EVERY, [1, 2, 3], {"e": 1, "c": 3})
        self.faulty(Fault, "twice", "b", matched, EVERY, [1, 2, 3], {"b": 1, "a": 3})
        self.faulty(Fault, "twice", "a", matched, EVERY, [1, 2, 3], {"a": 1, "b": 3})

    def test_parameters_that_get_nothing(self):
        self.faulty(Fault, "lacks", "a", matched, (A,), [], {})
        self.faulty(Fault, "lacks", "a", matched, (A, B), [], {})
        self.faulty(Fault, "lacks", "b", matched, (A, B, C), [], {"a": 1})
        self.faulty(Fault, "lacks", "b", matched, (A, B, C), [1], {"c": 1})
        self.faulty(Fault, "lacks", "e", matched, EVERY, [1, 2], {})
        self.faulty(Fault, "lacks", "b", matched, EVERY, [1], {"f": 1})
        self.faulty(Fault, "lacks", "c", matched, (("onlyor", "a", 1), ("only", "c"), ("only", "b")), [], {})

    def test_the_order_of_the_faults(self):
        params = (A, B)
        self.faulty(Fault, "many", 3, matched, params, [1, 2, 3], {"x": 1, "a": 1})
        self.faulty(Fault, "strange", "x", matched, params, [1], {"x": 1, "a": 1})
        self.faulty(Fault, "twice", "a", matched, params, [1], {"a": 1, "x": 1})
        self.faulty(Fault, "twice", "a", matched, params, [1], {"a": 1})
        self.faulty(Fault, "strange", "x", matched, params, [], {"x": 1})
        self.faulty(Fault, "strange", "x", matched, params, [], {"a": 1, "x": 1})

    def test_refusals_in_the_order_of_the_arguments(self):
        no_args, no_rows = {"a": 1}, [1]
        for thing in NO_PARAMS:
            self.refused(NoParams, thing, matched, thing, [], {})
            self.refused(NoParams, thing, matched, thing, no_args, no_rows)
        for thing in (None, 0, "", "ab", {}, {0: 1}, [[]], [1, True], ([],), list(range(21)), tuple(range(21)),
                      [10 ** 9 + 1], [1, nested(5)], [1, "x" * 61]):
            self.refused(NoList, thing, matched, (A,), thing, {})
            self.refused(NoList, thing, matched, (A,), thing, no_rows)
        for thing in (None, 0, "", [], (), [("a", 1)], {"A": 1}, {1: 1}, {"a": []}, {"a": 1, "b": True},
                      dict.fromkeys(names(31), 1)):
            self.refused(NoRows, thing, matched, (), [1, 2], thing)
            self.refused(NoRows, thing, matched, named=thing, args=[1, 2], params=())

    def test_twenty_args_and_thirty_names_go(self):
        self.told({"a": row(*range(20))}, (("rest", "a"),), list(range(20)), {})
        self.faulty(Fault, "strange", "naa", matched, (), [], dict.fromkeys(names(30), 1))

    def test_what_is_handed_in_stays_as_it_was(self):
        params, args, named = EVERY, [1, 2, 3, row(4)], {"e": 5}
        before = copy.deepcopy((params, args, named))
        found = matched(params, args, named)
        self.assertEqual((params, args, named), before)
        found["a"] = "changed"
        found["d"] = "changed"
        args.append(9)
        self.assertEqual(matched(params, args, named)["a"], 1)
        self.assertEqual((params, named), (before[0], before[2]))


class Written(Checks, unittest.TestCase):

    def test_each_kind(self):
        for params, text in (((), "()"), ((A,), "(a)"), ((A, B), "(a b)"), ((("or", "a", 1),), "(a=1)"),
                             ((("or", "a", "x y"),), "(a='x y')"), ((("or", "a", None),), "(a=none)"),
                             ((("or", "a", -5), ("rest", "b")), "(a=-5 b..)"), ((("rest", "abcdefg"),), "(abcdefg..)"),
                             ((("only", "a"),), "(*a)"), ((("onlyor", "a", ""),), "(*a='')"),
                             ((("onlyor", "a", ") *b"), ("only", "c")), "(*a=') *b' *c)"), (EVERY, EVERY_TEXT)):
            self.assertEqual(params_text(params), text)
            self.assertEqual(params_text(params=params), text)
            self.assertEqual(read_params(text), params)
            self.assertEqual(read_params(text=text), params)

    def test_all_rows_are_read_as_they_were_written(self):
        for words, params in rows_of_kinds(5):
            if goes(words):
                self.assertEqual(read_params(params_text(params)), params)

    def test_names_of_all_letters_and_lengths(self):
        for name in list("abcdefghijklmnopqrstuvwxyz") + ["z" * many for many in range(2, 9)]:
            for word, kind in KINDS.items():
                params = (kind(name),)
                self.assertEqual(read_params(params_text(params)), params, (word, name))

    def test_what_is_no_row(self):
        for thing in NO_PARAMS:
            self.refused(NoParams, thing, params_text, thing)

    def test_what_is_no_text(self):
        for thing in (None, True, 0, (), [], {}, ("(a)",), ["(a)"], (A,), b"()"):
            self.refused(NoText, thing, read_params, thing)

    def test_texts_that_write_none(self):
        for text in WRITES_NONE:
            self.refused(NoParams, text, read_params, text)

    def test_what_bends_a_text_bends_the_row_or_is_refused(self):
        for at in range(len(EVERY_TEXT) + 1):
            for sign in ("", " ", "a", "0", "*", "=", ".", "(", ")"):
                for text in (EVERY_TEXT[:at] + sign + EVERY_TEXT[at:], EVERY_TEXT[:at] + sign + EVERY_TEXT[at + 1:]):
                    try:
                        params = read_params(text)
                    except NoParams as error:
                        self.assertIs(error.found, text)
                    else:
                        self.assertEqual(params_text(params), text)


class Told(Checks, unittest.TestCase):

    def test_names(self):
        self.assertEqual(names_of(()), ())
        self.assertEqual(names_of(EVERY), tuple("abcdef"))
        self.assertEqual(names_of(params=(("rest", "z"), ("only", "y"))), ("z", "y"))
        for thing in NO_PARAMS:
            self.refused(NoParams, thing, names_of, thing)

    def test_range(self):
        for params, expected in (((), (0, 0)), ((A,), (1, 1)), ((A, B), (2, 2)), ((A, ("or", "b", 1)), (1, 2)),
                                 ((("or", "a", 1), ("or", "b", 1)), (0, 2)), ((("rest", "a"),), (0, None)),
                                 ((A, ("rest", "b")), (1, None)), ((A, ("or", "c", 1), ("rest", "b")), (1, None)),
                                 ((("only", "a"), ("onlyor", "b", 1)), (0, 0)), (EVERY, (2, None)),
                                 ((A, ("only", "b"), ("onlyor", "c", 1)), (1, 1))):
            self.assertEqual(range_of(params), expected)
            self.assertEqual(range_of(params=params), expected)
            self.assertIs(range_of(params).__class__, tuple)
        for thing in NO_PARAMS:
            self.refused(NoParams, thing, range_of, thing)


class Takes(Checks, unittest.TestCase):

    def matches(self, params, many, called):
        try:
            matched(params, list(range(many)), {name: 1 for name in called})
        except Fault:
            return False
        return True

    def test_just_what_matching_takes(self):
        for words, params in rows_of_kinds(3):
            if goes(words):
                for many in range(21):
                    for size in range(4):
                        for called in itertools.permutations("abcx", size):
                            expected = self.matches(params, many, called)
                            self.assertIs(takes(params, many, list(called)), expected, (params, many, called))

    def test_calls_that_are_taken_and_such_that_are_not(self):
        for many, called, expected in ((0, [], False), (2, ["e"], True), (2, [], False), (1, ["e", "b"], True),
                                      (0, ["b", "a", "e", "c", "f"], True), (3, ["c", "e"], False), (20, ["e"], True),
                                      (2, ["c", "e"], True), (2, ["d", "e"], False), (2, ["e", "x"], False)):
            self.assertIs(takes(EVERY, many, called), expected, (many, called))
            self.assertIs(takes(names=tuple(called), many=many, params=EVERY), expected, (many, called))
        for many in range(21):
            self.assertIs(takes((A, ("or", "b", 1)), many, []), many in (1, 2))
            self.assertIs(takes((A, ("rest", "b")), many, []), many > 0)

    def test_thirty_names_go(self):
        self.assertIs(takes((), 0, names(30)), False)
        thirty_one = names(31)
        self.refused(NoList, thirty_one, takes, (), 0, thirty_one)

    def test_refusals_in_the_order_of_the_arguments(self):
        no_number, no_list = "1", "ab"
        for thing in NO_PARAMS:
            self.refused(NoParams, thing, takes, thing, 0, [])
            self.refused(NoParams, thing, takes, thing, no_number, no_list)
        for thing in (-1, 21, True, False, None, "", [], 10 ** 29, (1,)):
            self.refused(NoNumber, thing, takes, (A,), thing, [])
            self.refused(NoNumber, thing, takes, (A,), thing, no_list)
        for thing in (None, 0, "", "ab", {}, {"a": 1}, ["A"], [1], ["a", "a"], ("a", "b", "a"), [["a"]], [{}], ["me"],
                      [None]):
            self.refused(NoList, thing, takes, (A,), 1, thing)
            self.refused(NoList, thing, takes, names=thing, many=1, params=(A,))

    def test_what_is_handed_in_stays_as_it_was(self):
        called = ["b", "a"]
        takes((A, B), 0, called)
        self.assertEqual(called, ["b", "a"])


if __name__ == "__main__":
    unittest.main()
