"""Promises 71 to 74: views, what they let through, taking them back, and which is the narrower one."""

import itertools
import unittest

from checks import STRANGE_THINGS, Checks, names
from innerlook.errors import NoAsk, NoKind, NoList, NoName, NoStore, NoThing
from innerlook.fronts import Front, base_of, behind, counted, is_front, led, road, rules_of, shown, stand
from innerlook.store import Store
from innerlook.trees import LOOKS
from innerlook.views import barring, fronts_of, is_gone, is_narrower, take_back, view, view_of
from test_fronts import Built
from test_store import ALL, NO_THINGS

WORDS = tuple(LOOKS) + ("get", "set", "new", "call", "text")


class Views(Built):

    def view(self, thing=None, **told):
        return view(self.store, self.thing if thing is None else thing, **told)


class Making(Views):

    def test_views_of_each_sort_of_thing(self):
        for thing in self.no_fronts + (self.bare, self.part):
            made = self.view(thing, names=("a", "b"), asks=("get", "text"))
            self.assertEqual(made, ("thing", len(self.store) - 1))
            self.assertEqual(self.store.sort_of(made), "view")
            self.assertEqual(view_of(self.store, made), (thing, ("a", "b"), ("get", "text"), False))
            self.assertIs(is_front(self.store, made), True)
            self.assertEqual((behind(self.store, made), base_of(self.store, made)), (thing, base_of(self.store, thing)))

    def test_names_and_words(self):
        for told in (None, (), ("a",), tuple(names(20)), ("b", "a")):
            self.assertEqual(view_of(self.store, self.view(names=told)), (self.thing, told, None, False))
        for told in (None, (), ("get",), WORDS, ("text", "call", "new")):
            self.assertEqual(view_of(self.store, self.view(asks=told)), (self.thing, None, told, False))
        self.assertEqual(view_of(self.store, view(asks=(), names=None, thing=ALL, store=self.store)),
                         (ALL, None, (), False))
        self.assertRaises(TypeError, view, self.store, self.thing, ("a",))

    def test_each_word_of_91(self):
        self.assertEqual(len(WORDS), 23)
        for word in WORDS:
            self.assertEqual(view_of(self.store, self.view(asks=(word,)))[2], (word,))

    def test_refused(self):
        for found in ([], ["a"], "a", {}, {"a": 1}, 0, False, tuple(names(21)), ("a", "a"), ("a", "b", "a"), ("A",),
                      ("me",), (1,), (None,), (["a"],), ("a", ("b",)), (("a", "b"),), Store()):
            self.refused(NoList, found, self.keeps, self.store, view, self.store, self.thing, names=found, asks=5)
        for found in ([], ["get"], "get", {}, {"get": 1}, 0, False, ("get", "get"), ("get", "x", "get"), Store(),
                      ("x", "x"), ("get", "set", "get")):
            self.refused(NoList, found, self.keeps, self.store, view, self.store, self.thing, asks=found)
        for asks, at in ((("x",), 0), (("get", "add"), 1), (("get", 5, "x"), 1), ((None,), 0), ((["get"], "x"), 0),
                         (("Get",), 0), (("",), 0), (("lit",), 0), ((1, True), 0), ((True, 1), 0), ((("get",),), 0),
                         (("get", {}), 1), ((Store(), "x"), 0)):
            self.refused(NoAsk, asks[at], self.keeps, self.store, view, self.store, self.thing, asks=asks)
        for thing in NO_THINGS:
            if thing != ("thing", 4):
                self.refused(NoThing, thing, self.keeps, self.store, view, self.store, thing, names=5, asks=5)
                for call in (take_back, is_gone, view_of, fronts_of):
                    self.refused(NoThing, thing, call, self.store, thing)
                self.refused(NoThing, thing, barring, self.store, thing, "no word")
                self.refused(NoThing, thing, is_narrower, self.store, thing, "none")
                self.refused(NoThing, thing, is_narrower, self.store, self.thing, thing)
        for thing in STRANGE_THINGS + (None, 5, "store"):
            self.refused(NoStore, thing, view, thing, None, names=5, asks=5)
            for call in (take_back, is_gone, view_of, fronts_of):
                self.refused(NoStore, thing, call, thing, None)
            self.refused(NoStore, thing, barring, thing, None, None)
            self.refused(NoStore, thing, is_narrower, thing, None, None)

    def test_a_full_store(self):
        while len(self.store) < 199:
            self.store.plain(ALL)
        self.assertEqual(self.view(), ("thing", 199))
        self.fault("full", 200, self.keeps, self.store, view, self.store, self.thing)
        self.refused(NoAsk, "x", view, self.store, self.thing, asks=("x",))

    def test_what_is_told_of_views_alone(self):
        for thing in self.no_fronts + (self.bare,):
            self.fault_of_very("wrong", thing, view_of, self.store, thing)
            self.fault_of_very("wrong", thing, self.keeps, self.store, take_back, self.store, thing)
        made = self.view()
        self.fault_of_very("wrong", made, rules_of, self.store, made)
        self.fault_of_very("wrong", made, counted, self.store, made)

    def test_views_as_things_of_a_store(self):
        made = self.view(names=("own",))
        for call, more in ((self.store.kind_of, ()), (self.store.rows, ()), (self.store.deed_of, ()),
                           (self.store.met, ("own",)), (self.store.names, ()), (self.store.put, ("own", 1)),
                           (self.store.drop, ("own",)), (self.store.turn, (self.kind,))):
            self.fault_of_very("wrong", made, self.keeps, self.store, call, made, *more)
        self.refused(NoKind, made, self.store.wants, made)

    def test_equality_twins_and_records(self):
        def built(**told):
            store = Store()
            view(store, told.pop("thing", ALL), **told)
            return store
        base = {"names": ("a", "b"), "asks": ("get", "set")}
        self.assertTrue(built(**base) == built(**base))
        for changes in ({"names": ("b", "a")}, {"names": ("a",)}, {"names": None}, {"asks": ("set", "get")},
                        {"asks": None}, {"asks": ()}, {"thing": ("thing", 1)}):
            self.assertFalse(built(**base) == built(**{**base, **changes}), changes)
        store = built(**base)
        twin = store.twin()
        self.assertIs(take_back(twin, ("thing", 4)), True)
        self.assertFalse(store == twin)
        self.assertEqual([is_gone(held, ("thing", 4)) for held in (store, twin)], [False, True])
        record = store.record(("thing", 4))
        self.assertIsInstance(record, Front)
        self.assertIsNone(record.moved({0: 3}))
        self.assertEqual((record.behind(), record.leads("a"), record.leads("c")), (("thing", 3), ("on", "a"), (
            "barred", "c")))
        self.assertEqual((record.lets_word("get"), record.lets_word("new"), record.is_taken()), (True, False, False))
        self.assertEqual(record.front_shown(["c", "b", "d", "a"]), ["b", "a"])
        self.assertEqual(record.twin().told(), record.told())
        self.assertTrue(twin.record(("thing", 4)).twin().is_taken())


class Asking(Views):

    def test_names_that_are_let_through(self):
        one = view(self.store, self.thing, names=("b", "top", "x"))
        self.assertEqual(led(self.store, one, "b"), ("met", self.thing, "b", self.thing, 2))
        self.assertEqual(led(self.store, one, "top"), ("met", self.thing, "top", self.kind, "kind top"))
        self.assertEqual(led(self.store, one, "x"), ("nowhere",))
        self.assertEqual(led(self.store, one, "own"), ("barred", "own"))
        self.assertEqual(led(self.store, one, "q"), ("barred", "q"))
        self.assertEqual(shown(self.store, one), ["b", "top"])

    def test_all_names_and_none(self):
        every, none = view(self.store, self.thing), view(self.store, self.thing, names=())
        self.assertEqual(shown(self.store, every), shown(self.store, self.thing))
        self.assertEqual(shown(self.store, none), [])
        for name in ("own", "c", "q"):
            self.assertEqual(led(self.store, every, name), led(self.store, self.thing, name))
            self.assertEqual(led(self.store, none, name), ("barred", name))

    def test_a_view_of_a_view_lets_through_what_both_do(self):
        inner = view(self.store, self.thing, names=("b", "c"), asks=("get", "has", "set"))
        outer = view(self.store, inner, names=("c", "own"), asks=("set", "get", "kind"))
        self.assertEqual(shown(self.store, outer), ["c"])
        for name, told in (("c", ("met", self.thing, "c", self.thing, 3)), ("own", ("barred", "own")),
                           ("b", ("barred", "b")), ("q", ("barred", "q"))):
            self.assertEqual(led(self.store, outer, name), told)
        self.assertEqual([word for word in WORDS if barring(self.store, outer, word) is None], ["get", "set"])

    def test_words_by_the_first_view_that_bars(self):
        first = view(self.store, self.thing, asks=("get", "set"))
        middle = stand(self.store, first, (("hide", "a"),))
        second = view(self.store, middle, asks=("get", "kind"))
        third = view(self.store, second, names=())
        for word, told in (("get", None), ("set", second), ("kind", first), ("text", second), ("call", second)):
            self.assertEqual(self.keeps(self.store, barring, self.store, third, word), told)
            self.assertEqual(barring(self.store, second, word), told)
        self.assertEqual(barring(self.store, middle, "kind"), first)
        self.assertEqual(barring(self.store, middle, "set"), None)
        self.assertEqual(barring(word="kind", thing=first, store=self.store), first)
        for thing in self.no_fronts:
            for word in WORDS:
                self.assertIsNone(barring(self.store, thing, word))
        for word in (None, 1, "", "add", "Get", ["get"], ("get",), {}, True, "lit", Store()):
            self.refused(NoAsk, word, barring, self.store, third, word)

    def test_fronts_in_their_order(self):
        first = view(self.store, self.thing)
        second = stand(self.store, first)
        third = view(self.store, second)
        self.assertEqual(fronts_of(self.store, third), [third, second, first])
        self.assertEqual(fronts_of(self.store, second), [second, first])
        self.assertEqual(fronts_of(thing=first, store=self.store), [first])
        for thing in self.no_fronts:
            self.assertEqual(fronts_of(self.store, thing), [])
        fronts_of(self.store, third).clear()
        self.assertEqual(len(fronts_of(self.store, third)), 3)


class TakingBack(Views):

    def setUp(self):
        Views.setUp(self)
        self.first = view(self.store, self.thing, names=("b",))
        self.second = stand(self.store, self.first, (("give", "x", 1),))
        self.third = view(self.store, self.second)
        self.beside = view(self.store, self.thing)

    def gone(self, *things):
        every = (self.first, self.second, self.third, self.beside, self.thing)
        self.assertEqual([is_gone(self.store, thing) for thing in every], [thing in things for thing in every])

    def test_taken_back_once_and_again(self):
        self.gone()
        self.assertIs(take_back(self.store, self.first), True)
        self.assertIs(take_back(self.store, self.first), False)
        self.assertEqual(view_of(self.store, self.first), (self.thing, ("b",), None, True))
        self.assertEqual(view_of(self.store, self.third), (self.second, None, None, False))
        self.gone(self.first, self.second, self.third)
        self.assertIs(take_back(view=self.third, store=self.store), True)
        self.assertIs(take_back(self.store, self.third), False)

    def test_a_view_before_others_alone(self):
        take_back(self.store, self.third)
        self.gone(self.third)
        self.assertEqual(led(self.store, self.second, "b"), ("met", self.thing, "b", self.thing, 2))

    def test_fronts_made_later_are_gone_too(self):
        take_back(self.store, self.first)
        self.assertIs(is_gone(self.store, stand(self.store, self.third)), True)
        self.assertIs(is_gone(self.store, view(self.store, self.first)), True)

    def test_the_fault_is_of_the_asked_front(self):
        take_back(self.store, self.first)
        for front in (self.first, self.second, self.third):
            for name in ("b", "x", "own"):
                self.fault_of_very("gone", front, led, self.store, front, name)
                self.fault_of_very("gone", front, road, self.store, front, name)
            self.fault_of_very("gone", front, shown, self.store, front)
            for name in ("B", None, 5):
                self.refused(NoName, name, led, self.store, front, name)
        self.assertEqual(shown(self.store, self.beside), shown(self.store, self.thing))

    def test_frames_are_not_gone(self):
        for thing in (self.frame, stand(self.store, self.frame), view(self.store, self.frame), self.wrap, self.deed, ALL):
            self.assertIs(is_gone(self.store, thing), False)

    def test_laid_back_it_is_as_it_was_then(self):
        before = self.store.twin()
        take_back(self.store, self.first)
        self.assertFalse(self.store == before)
        self.store.lay(before)
        self.gone()
        self.assertIs(take_back(self.store, self.first), True)

    def test_what_is_told_of_a_gone_front_without_asking(self):
        take_back(self.store, self.first)
        self.assertEqual(barring(self.store, self.third, "get"), None)
        self.assertEqual(fronts_of(self.store, self.third), [self.third, self.second, self.first])
        self.assertEqual(base_of(self.store, self.third), self.thing)
        self.assertIs(is_narrower(self.store, self.first, self.beside), True)


class Narrower(Views):

    def narrower(self, one, other, told):
        self.assertIs(self.keeps(self.store, is_narrower, self.store, one, other), told)

    def test_names(self):
        sets = (None, (), ("a",), ("b", "a"), ("a", "b"), ("b", "c"))
        for one, other in itertools.product(sets, repeat=2):
            told = other is None or (one is not None and set(one) <= set(other))
            self.narrower(view(self.store, self.thing, names=one), view(self.store, self.thing, names=other), told)

    def test_words(self):
        sets = (None, (), ("get",), ("set", "get"), ("get", "set"), ("set", "new"), WORDS, WORDS[1:], WORDS[::-1])
        for one, other in itertools.product(sets, repeat=2):
            told = set(WORDS if one is None else one) <= set(WORDS if other is None else other)
            self.narrower(view(self.store, self.thing, asks=one), view(self.store, self.thing, asks=other), told)

    def test_both_names_and_words(self):
        wide = view(self.store, self.thing, names=("a", "b"), asks=("get", "set"))
        for told, names_let, asks_let in ((True, ("a",), ("get",)), (False, ("a",), ("get", "new")),
                                          (False, ("a", "c"), ("get",)), (False, ("a",), None), (False, None, ())):
            self.narrower(view(self.store, self.thing, names=names_let, asks=asks_let), wide, told)

    def test_all_views_behind_count(self):
        first = view(self.store, self.thing, names=("a", "b", "c"), asks=("get", "set", "new"))
        second = view(self.store, first, names=("b", "c", "d"), asks=("set", "new", "kind"))
        third = view(self.store, second)
        alone = view(self.store, self.thing, names=("b", "c"), asks=("set", "new"))
        for one in (second, third):
            self.narrower(one, alone, True)
            self.narrower(alone, one, True)
            self.narrower(one, first, True)
            self.narrower(first, one, False)
        self.narrower(third, second, True)
        self.narrower(second, third, True)
        every = view(self.store, view(self.store, self.thing))
        self.narrower(every, view(self.store, self.thing), True)
        self.narrower(third, every, True)
        self.narrower(every, third, False)

    def test_a_view_itself(self):
        for told in (None, (), ("a",)):
            one = view(self.store, self.thing, names=told, asks=())
            self.narrower(one, one, True)

    def test_another_base(self):
        none, every = view(self.store, self.thing, names=(), asks=()), view(self.store, self.kind)
        self.narrower(none, every, False)
        self.narrower(every, none, False)

    def test_what_is_no_view_or_leads_through_a_stand(self):
        good = view(self.store, self.thing)
        through = view(self.store, self.bare)
        over = view(self.store, stand(self.store, good))
        bad = self.no_fronts + (self.bare, through, over, view(self.store, through), stand(self.store, good))
        for thing in bad:
            self.fault_of_very("wrong", thing, is_narrower, self.store, thing, good)
            self.fault_of_very("wrong", thing, is_narrower, self.store, good, thing)
            self.fault_of_very("wrong", thing, is_narrower, self.store, thing, bad[0])
        self.assertIs(is_narrower(other=good, one=good, store=self.store), True)

    def test_no_narrower_view_is_ever_wider(self):
        """Promise 74: what is made of a view shows no name and lets through no word that the view doesn't."""
        words = ("own", "b", "c", "top", "q")
        outer = first = view(self.store, self.thing, names=("b", "top"), asks=("get", "names"))
        for told in ({}, {"names": words}, {"asks": WORDS}, {"names": ("b", "own"), "asks": ("get", "set")}):
            outer = view(self.store, outer, **told)
            self.narrower(outer, first, True)
            for name in words:
                if led(self.store, first, name)[0] == "barred":
                    self.assertEqual(led(self.store, outer, name), ("barred", name))
            for word in WORDS:
                if barring(self.store, first, word) is not None:
                    self.assertIsNotNone(barring(self.store, outer, word))
            over = stand(self.store, outer, (("as", "x", "own"), ("as", "y", "b")))
            self.assertEqual(led(self.store, over, "x"), ("barred", "own"))
            self.assertEqual(led(self.store, over, "y")[0], "met")
            self.assertEqual(shown(self.store, over)[0], "y")


if __name__ == "__main__":
    unittest.main()
