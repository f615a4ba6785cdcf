"""Promises 21 and 22: expressions, blocks, deeds, and the places of a deed's statements."""

import random
import unittest

from checks import PERCENT, STRANGE_THINGS, Checks, names, row
from deeds import EACH_EXPRESSION, EACH_STATEMENT, ME, ONE, X, Chance, deed, shells, sums, wide
from innerlook.errors import NoDeed, NotThere
from innerlook.store import Store
from innerlook.trees import LOOKS, is_block, is_deed, is_expression, places_in, statement_at

WORDS = """has 2 drop 2 names 1 kind 1 turn 2 owner 2 under 2 title 1 above 1 params 1 copy 1 deep 1 sort 1 within 1
alike 2 made 2 stand 1 narrow 2""".split()


def deed_of(*statements):
    return ("a", (), tuple(statements))


def parts_in(thing):
    """How many statements and expressions there are in a tree, told by its nested tuples alone."""
    if not isinstance(thing, tuple):
        return 0
    many = sum(parts_in(part) for part in thing)
    return many + 1 if thing and isinstance(thing[0], str) and is_word(thing) else many


def is_word(thing):
    return thing in EACH_EXPRESSION or thing[0] in (
        "lit", "name", "add", "sub", "less", "same", "row", "part", "size", "get", "call", "new", "onward", "look",
        "let", "set", "do", "give", "if", "while")


class Expressions(unittest.TestCase):

    def test_looks_are_the_words_of_91_with_their_args(self):
        self.assertEqual(list(LOOKS.items()), list(zip(WORDS[::2], [int(word) for word in WORDS[1::2]])))

    def test_each_form_is_one(self):
        for tree in EACH_EXPRESSION:
            self.assertIs(is_expression(tree), True, tree)
        for tree in EACH_STATEMENT:
            self.assertIs(is_block((tree,)), True, tree)
            self.assertIs(is_deed(deed_of(tree)), True, tree)

    def test_a_statement_is_no_expression_and_an_expression_no_statement(self):
        for tree in EACH_STATEMENT:
            self.assertIs(is_expression(tree), False, tree)
            self.assertIs(is_expression(("size", tree)), False, tree)
        for tree in EACH_EXPRESSION:
            self.assertIs(is_block((tree,)), False, tree)
            self.assertIs(is_block((("while", ONE, (tree,)),)), False, tree)

    def test_a_part_left_out_or_put_in(self):
        for tree in EACH_EXPRESSION:
            self.assertFalse(is_expression(tree[:-1]), tree)
            for more in (ONE, (), 1, None, ("a", ONE)):
                self.assertFalse(is_expression(tree + (more,)), tree)
        for tree in EACH_STATEMENT:
            self.assertFalse(is_block((tree[:-1],)), tree)
            for more in (ONE, (), None, (("do", ONE),)):
                self.assertFalse(is_block((tree + (more,),)), tree)

    def test_a_part_of_another_kind(self):
        strange = STRANGE_THINGS + (True, None, 5, "x", ("lit",), ("do", ONE), (ONE,), Store())
        for tree in EACH_EXPRESSION + EACH_STATEMENT:
            for at in range(len(tree)):
                for thing in strange:
                    made = tree[:at] + (thing,) + tree[at + 1:]
                    fits = (tree[0] == "lit" and at == 1 and (thing is None or thing == "x" or thing == 5 and
                                                               thing is not True))
                    fits = fits or (tree[0] in ("name", "let") and at == 1 and thing == "x")
                    fits = fits or (thing == () and (at, tree[0]) in (
                        (1, "row"), (3, "call"), (4, "call"), (2, "new"), (1, "onward"), (2, "onward"), (2, "if"),
                        (3, "if"), (2, "while")))
                    fits = fits or (thing == (ONE,) and (at, tree[0]) in ((1, "row"), (3, "call"), (1, "onward")))
                    fits = fits or (thing == (ONE,) and at == 2 and tree[0] == "look" and LOOKS[tree[1]] == 1)
                    check = is_expression if tree in EACH_EXPRESSION else lambda thing: is_block((thing,))
                    self.assertIs(check(made), fits, made)

    def test_lists_in_the_place_of_tuples(self):
        for tree in EACH_EXPRESSION + EACH_STATEMENT:
            self.assertFalse(is_expression(list(tree)))
            self.assertFalse(is_block((list(tree),)))
            self.assertFalse(is_block([tree]))
            for at, part in enumerate(tree):
                if isinstance(part, tuple):
                    made = tree[:at] + (list(part),) + tree[at + 1:]
                    self.assertFalse(is_expression(made), made)
                    self.assertFalse(is_block((made,)), made)
        self.assertFalse(is_expression(("call", ME, X, (), (["a", ONE],))))
        self.assertFalse(is_expression(("new", ME, (("a", list(ONE)),))))

    def test_lits(self):
        for worth in (0, 10 ** 9, -10 ** 9, "", "x" * 60, None):
            self.assertTrue(is_expression(("lit", worth)))
        for worth in (("thing", 0), row(), row(1), True, False, 10 ** 9 + 1, -10 ** 9 - 1, "x" * 61, PERCENT, "'", [],
                      {}, "\n", Store()):
            self.assertFalse(is_expression(("lit", worth)), worth)

    def test_names(self):
        for name in ("a", "z", "abcdefgh", "deed", "row", "let"):
            self.assertTrue(is_expression(("name", name)))
            self.assertTrue(is_block((("let", name, ONE),)))
            self.assertTrue(is_expression(("new", ME, ((name, ONE),))))
        for name in ("me", "here", "none", "", "A", "a1", "abcdefghi", "a b", None, 1, True, [], ("a",), Store()):
            self.assertFalse(is_expression(("name", name)), name)
            self.assertFalse(is_block((("let", name, ONE),)), name)
            self.assertFalse(is_expression(("new", ME, ((name, ONE),))), name)
            self.assertFalse(is_expression(("onward", (), ((name, ONE),))), name)

    def test_six_args_and_named_and_seven(self):
        for many in (6, 7):
            args = (ONE,) * many
            named = tuple((name, ONE) for name in names(many))
            for tree in (("row", args), ("call", ME, X, args, ()), ("call", ME, X, (), named), ("new", X, named),
                         ("onward", args, ()), ("onward", (), named), ("call", ME, X, args, named)):
                self.assertIs(is_expression(tree), many == 6, tree)

    def test_one_name_twice_in_named(self):
        twice = (("a", ONE), ("b", ONE), ("a", X))
        for tree in (("call", ME, X, (), twice), ("new", X, twice), ("onward", (), twice)):
            self.assertFalse(is_expression(tree))
        for named in ((("a",),), (("a", ONE, ONE),), ("a", ONE), (ONE,), ("ab",), ((),), ({"a": ONE},), {"a": ONE}):
            self.assertFalse(is_expression(("new", X, named)), named)

    def test_looks_of_each_word_with_too_many_or_too_few_args(self):
        for word, many in LOOKS.items():
            for given in range(8):
                self.assertIs(is_expression(("look", word, (ME,) * given)), given == many, (word, given))
        for word in ("get", "set", "new", "call", "text", "add", "", "Has", None, 1, [], ("has",), {}, True):
            for given in range(4):
                self.assertFalse(is_expression(("look", word, (ME,) * given)), word)

    def test_any_thing_else_is_none(self):
        for thing in STRANGE_THINGS + (None, 1, "me", "lit", ("me", ), [("me",)], (("me",),), ("lit", 1, 2), Store()):
            expected = thing == ("me",)
            self.assertIs(is_expression(thing), expected, thing)
            self.assertIs(is_block(thing), thing == () and isinstance(thing, tuple), thing)
            self.assertIs(is_deed(thing), thing == ("row", (), ()), thing)

    def test_what_a_deed_is(self):
        self.assertTrue(is_deed(("a", (), ())))
        self.assertTrue(is_deed(("abcdefgh", (("by", "x"), ("rest", "y")), (("do", ONE),))))
        for thing in (("me", (), ()), ("", (), ()), (1, (), ()), ("a", [], ()), ("a", (), []), ("a", (("a",),), ()),
                      ("a", (), (ONE,)), ("a", ()), ("a", (), (), ()), ["a", (), ()], ("a", None, ()), ("a", (), None),
                      ("a", (("by", "x"), ("by", "x")), ()), ("deed", "a", (), ()), (None, (), ()), ([], (), ()),
                      ("a", (), ((("do", ONE),),)), ("a", (("or", "x", row()),), ())):
            self.assertIs(is_deed(thing), False, thing)


class Bounds(unittest.TestCase):

    def test_twelve_statements_and_thirteen_in_each_block(self):
        for many in (12, 13):
            block = (("do", ONE),) * many
            fits = many == 12
            self.assertIs(is_block(block), fits)
            for inner in (("if", ONE, block, ()), ("if", ONE, (), block), ("while", ONE, block)):
                self.assertIs(is_block((inner,)), fits)
                self.assertIs(is_deed(deed_of(inner)), fits)
            self.assertIs(is_deed(deed_of(*block)), fits)

    def test_four_hundred_parts_and_one_more(self):
        for many in (2, 3, 37, 38, 39, 40, 399, 400, 401):
            block = wide(many)
            self.assertEqual(parts_in(block), many)
            self.assertIs(is_block(block), many <= 400)
            self.assertIs(is_deed(deed_of(*block)), many <= 400)

    def test_four_hundred_parts_wherever_they_lie(self):
        for many in (400, 401):
            fits = many == 400
            rest = wide(many - 2)
            for tree in (("while", ONE, rest), ("if", ONE, rest, ()), ("if", ONE, (), rest),
                         ("if", ONE, rest[:4], rest[4:])):
                self.assertEqual(parts_in(tree), many)
                self.assertIs(is_block((tree,)), fits)
            for inner in self._expressions_of(many):
                self.assertEqual(parts_in(inner), many)
                self.assertIs(is_expression(inner), fits, inner)
                self.assertIs(is_block((("do", inner),)), False)
            for inner in self._expressions_of(many - 1):
                self.assertIs(is_block((("do", inner),)), fits)
                self.assertIs(is_block((("let", "x", inner),)), fits)
            for inner in self._expressions_of(many - 3):
                self.assertIs(is_block((("give", ONE), ("if", inner, (), ()))), fits)

    def _expressions_of(self, many):
        """Expressions of so many parts, most of them in args, in named, in both."""
        inner = [tree[1] for tree in wide(many - 3)]
        # Each statement of the block is one part, which its expression lacks.
        left = many - 3 - (parts_in(tuple(inner)))
        inner = [("row", (tree,)) for tree in inner[:left]] + inner[left:]
        first, second = tuple(inner[:6]), tuple(inner[6:])
        self.assertLessEqual(len(second), 6)
        named = tuple(zip("abcdef", first)), tuple(zip("ghijkl", second))
        return (("row", (("row", first), ("row", second))), ("add", ("row", first), ("row", second)),
                ("onward", (("onward", first, ()),), (("x", ("onward", (), named[1])),)),
                ("same", ("onward", (), named[0]), ("onward", second, ())))

    def test_twelve_within_one_another_and_thirteen(self):
        for levels in (11, 12, 13):
            fits = levels <= 12
            self.assertIs(is_expression(sums(levels)), fits)
            self.assertIs(is_block((("do", sums(levels - 1)),)), fits)
            self.assertIs(is_deed(deed_of(("do", ONE), ("give", sums(levels - 1)))), fits)

    def test_twelve_levels_by_each_place_in_which_an_expression_stands(self):
        for levels in (12, 13):
            deep = sums(levels - 1)
            fits = levels == 12
            for tree in (("add", deep, ONE), ("add", ONE, deep), ("sub", deep, ONE), ("sub", ONE, deep),
                         ("less", deep, ONE), ("less", ONE, deep), ("same", deep, ONE), ("same", ONE, deep),
                         ("row", (deep,)), ("row", (ONE, ONE, deep)), ("part", deep, ONE), ("part", ONE, deep),
                         ("size", deep), ("get", deep, ONE), ("get", ONE, deep), ("call", deep, ONE, (), ()),
                         ("call", ONE, deep, (), ()), ("call", ONE, ONE, (ONE, deep), ()),
                         ("call", ONE, ONE, (), (("a", ONE), ("b", deep))), ("new", deep, ()),
                         ("new", ONE, (("a", deep),)), ("onward", (deep,), ()), ("onward", (), (("a", deep),)),
                         ("look", "sort", (deep,)), ("look", "has", (ONE, deep))):
                self.assertIs(is_expression(tree), fits, tree)
            for tree in (("let", "x", deep), ("set", deep, ONE, ONE), ("set", ONE, deep, ONE), ("set", ONE, ONE, deep),
                         ("do", deep), ("give", deep), ("if", deep, (), ()), ("while", deep, ())):
                self.assertIs(is_block((tree,)), fits, tree)

    def test_twelve_levels_by_statements(self):
        for word in ("while", "if"):
            for around in (1, 5, 10, 11):
                for levels in (1, 2, 11, 12):
                    tree = shells(around, ("do", sums(levels)), word)
                    self.assertIs(is_block((tree,)), around + 1 + levels <= 12, (word, around, levels))
            empty = ("while", ONE, ()) if word == "while" else ("if", ONE, (), ())
            self.assertTrue(is_block((shells(10, empty, word),)))
            self.assertFalse(is_block((shells(11, empty, word),)))
        self.assertTrue(is_block((("if", ONE, (shells(9, ("do", ONE)),), ()),)))
        self.assertFalse(is_block((("if", ONE, (shells(10, ("do", ONE)),), ()),)))

    def test_far_too_big_trees_are_looked_at_soon(self):
        huge = ONE
        for _ in range(11):
            huge = ("row", (huge,) * 6)
        self.assertFalse(is_expression(huge))
        block = (("do", ONE),)
        for _ in range(10):
            block = (("if", ONE, block, block),) * 12
        self.assertFalse(is_block(block))
        self.assertFalse(is_deed(("a", (), block)))
        deep = sums(19)
        self.assertFalse(is_expression(deep))

    def test_trees_by_chance_are_deeds(self):
        for seed in range(200):
            made = Chance(seed).deed()
            self.assertTrue(is_deed(made) or parts_in(made[2]) > 400, made)


class Places(Checks, unittest.TestCase):

    DEED = deed("deed a () / do 1 / if 2 / do 3 / while 4 / do 5 / if 6 / end / end / else / do 7 / do 8 / end / "
                "while 9 / end / give 10")
    PLACES = [(0,), (1,), (1, 0, 0), (1, 0, 1), (1, 0, 1, 0, 0), (1, 0, 1, 0, 1), (1, 1, 0), (1, 1, 1), (2,), (3,)]

    def test_all_places_in_the_order_of_the_rows(self):
        self.assertEqual(places_in(self.DEED), self.PLACES)
        self.assertEqual(places_in(("a", (), ())), [])
        lits = [statement_at(self.DEED, place)[1] for place in self.PLACES]
        self.assertEqual(lits, [("lit", number) for number in range(1, 11)])

    def test_the_statement_at_each(self):
        self.assertIs(statement_at(self.DEED, (1,)), self.DEED[2][1])
        self.assertIs(statement_at(self.DEED, (1, 0, 1, 0, 1)), self.DEED[2][1][2][1][2][1])
        self.assertIs(statement_at(self.DEED, (1, 1, 0)), self.DEED[2][1][3][0])

    def test_places_of_deeds_by_chance(self):
        for seed in range(60):
            made = Chance(seed).deed()
            places = places_in(made)
            self.assertEqual(len(set(places)), len(places))
            self.assertEqual([parts_in(statement_at(made, place)) > 0 for place in places], [True] * len(places))
            self.assertEqual(places, sorted(places))

    def test_places_deep_within(self):
        tree = shells(10, ("do", ONE))
        place = (0,) * 21
        self.assertIs(places_in(deed_of(tree))[-1] == place, True)
        self.assertEqual(statement_at(deed_of(tree), place), ("do", ONE))
        self.refused_at(deed_of(tree), place + (0, 0))

    def refused_at(self, made, place):
        self.refused(NotThere, place, statement_at, made, place)

    def test_places_that_lead_nowhere(self):
        for place in ((), (4,), (-1,), (1, 0), (1, 1), (1, 2), (1, 2, 0), (1, -1, 0), (1, 0, 2), (1, 1, 2), (1, 0, -1),
                      (0, 0), (0, 0, 0), (2, 0), (2, 0, 0), (2, 1, 0), (3, 0, 0), (1, 0, 1, 1, 0), (1, 0, 1, 0, 2),
                      (1, 0, 1, 0, 1, 0, 0), (12,), (10 ** 29,), (1, 10 ** 29, 0), (-10 ** 29,), (0,) * 100):
            self.refused_at(self.DEED, place)

    def test_places_that_are_none(self):
        for place in ([0], [1, 0, 0], (True,), (False,), (1, False, 0), (1, True, 0), (1, 0, False), 0, None, "0", ("0",),
                      (None,), ((0,),), {0: 0}, (0, None, 0), Store(), (1, [0], 0)):
            self.refused_at(self.DEED, place)

    def test_no_deed_ahead_of_all(self):
        self.assertTrue(is_deed(("row", (), ())))
        for thing in (None, 1, "a", (), [], ("a", (), [])) + STRANGE_THINGS:
            if thing == ("row", (), ()):
                continue
            self.refused(NoDeed, thing, places_in, thing)
            self.refused(NoDeed, thing, statement_at, thing, "nowhere")

    def test_by_names(self):
        self.assertEqual(places_in(deed=self.DEED), self.PLACES)
        self.assertEqual(statement_at(place=(0,), deed=self.DEED), ("do", ONE))
        for call in (is_expression, is_block, is_deed):
            self.assertIs(call(thing=5), False)

    def test_places_told_are_new_each_time(self):
        told = places_in(self.DEED)
        told.append("more")
        random.Random(1).shuffle(told)
        self.assertEqual(places_in(self.DEED), self.PLACES)


if __name__ == "__main__":
    unittest.main()
