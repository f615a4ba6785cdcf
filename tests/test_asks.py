"""Promises 91 and 93: each word of an ask, of things of each sort, what is refused, and in which order."""

import unittest

from checks import STRANGE_THINGS, names, row
from deeds import deed
from house import House
from innerlook.asks import ASKS, ask, deed_met
from innerlook.copies import copied_deep
from innerlook.deedtext import deed_text
from innerlook.errors import NoAsk, NoList, NoName, NoRows, NoStore, NoThing, NoWorth
from innerlook.fronts import rules_of
from innerlook.store import Store
from innerlook.trees import LOOKS
from innerlook.views import is_gone, take_back, view_of
from innerlook.wraps import put_on, remembered
from test_store import ALL, DEEDS, FRAMES, KINDS, NO_NAMES, NO_THINGS

# What each word is asked with, of a thing of which the name own is met, where it goes.
WITH = {"has": ("own",), "drop": ("b",), "turn": (("thing", 4),), "owner": ("own",), "under": (("thing", 4),),
        "alike": (5,), "made": ("new",), "narrow": (row("own"),), "get": ("own",), "set": ("own", 7), "new": ({"own": 1},)}


class Words(House):

    def test_the_words_and_how_many_things(self):
        self.assertEqual(ASKS, {**LOOKS, "get": 2, "set": 3, "new": 2, "text": 1})
        self.assertIs(ASKS.__class__, dict)

    def test_kind(self):
        machine, outer, inner = self.two_frames()
        for thing, kind in ((self.thing, self.sub), (self.sub, KINDS), (ALL, KINDS), (self.add, DEEDS),
                            (self.wrap, DEEDS), (outer, FRAMES), (inner, FRAMES)):
            self.assertEqual(self.ask(thing, "kind"), kind)
            self.assertEqual(self.ask(self.stand(("hide", "kind"), thing=thing), "kind"), kind)
            self.assertEqual(self.ask(self.view("a", thing=self.stand(thing=thing)), "kind"), kind)

    def test_turn(self):
        other = self.store.kind("other")
        frames = self.two_frames()[1:]
        self.assertIsNone(self.ask(self.thing, "turn", other))
        self.assertEqual(self.store.kind_of(self.thing), other)
        self.assertIsNone(self.ask(self.stand(("hide", "own")), "turn", self.stand(thing=self.sub)))
        self.assertEqual(self.store.kind_of(self.thing), self.sub)
        self.ask(self.thing, "turn", ALL)
        self.assertEqual(self.store.kind_of(self.thing), ALL)
        front = self.stand(thing=self.sub)
        for thing in (self.sub, ALL, self.add, self.wrap, *frames):
            self.asks("wrong", thing, thing, "turn", front)
            self.asks("wrong", thing, self.stand(thing=thing), "turn", front)
        self.asks("wrong", KINDS, self.thing, "turn", self.stand(thing=KINDS))
        self.asks("wrong", FRAMES, self.stand(), "turn", FRAMES)
        for second in (self.thing, self.add, self.wrap, self.stand(), self.view(), 5, None, "a", row(), row(self.sub)):
            self.asks("wrong", second, self.thing, "turn", second)
            self.asks("wrong", second, self.add, "turn", second)
        poor = self.store.plain(ALL)
        self.asks("wants", "own", self.stand(("give", "own", 1), thing=poor), "turn", self.sub)

    def test_under(self):
        front = self.view(thing=self.sub)
        for thing, kinds in ((self.thing, (ALL, self.box, self.sub)), (self.sub, (ALL, self.box, self.sub)),
                             (self.box, (ALL, self.box)), (ALL, (ALL,)), (KINDS, (ALL, KINDS)),
                             (self.add, (ALL, DEEDS)), (self.wrap, (ALL, DEEDS)), (self.two_frames()[2], (ALL, FRAMES))):
            for kind in (ALL, KINDS, DEEDS, FRAMES, self.box, self.sub):
                worth = 1 if kind in kinds else 0
                self.assertEqual(self.ask(thing, "under", kind), worth, (thing, kind))
                self.assertEqual(self.ask(self.stand(thing=thing), "under", self.view(thing=kind)), worth)
        self.assertEqual(self.ask(self.thing, "under", front), 1)
        for second in (self.thing, self.add, self.wrap, self.stand(), 5, None, "a", row(self.sub)):
            self.asks("wrong", second, self.thing, "under", second)

    def test_title(self):
        outer, inner = self.two_frames()[1:]
        for thing, title in ((self.sub, "sub"), (ALL, "all"), (self.add, "add"), (self.wrap, "add"), (outer, "open"),
                             (inner, "inner")):
            self.assertEqual(self.ask(thing, "title"), title)
            self.assertEqual(self.ask(self.view(thing=self.stand(thing=thing)), "title"), title)
        self.asks("wrong", self.thing, self.thing, "title")
        front = self.stand(("give", "title", 1))
        self.asks("wrong", front, front, "title")

    def test_above(self):
        outer, inner = self.two_frames()[1:]
        for thing, above in ((self.sub, self.box), (self.box, ALL), (ALL, None), (KINDS, ALL), (inner, outer),
                             (outer, None)):
            self.assertEqual(self.ask(thing, "above"), above)
            self.assertEqual(self.ask(self.stand(thing=thing), "above"), above)
        for thing in (self.thing, self.add, self.wrap, self.stand(), self.view(thing=self.add)):
            self.asks("wrong", thing, thing, "above")

    def test_params(self):
        outer, inner = self.two_frames()[1:]
        for thing, params in ((self.add, ("n", "by")), (self.wrap, ("n", "by")), (outer, ("x",)), (inner, ("z",)),
                              (self.store.deed(deed("deed a ()")), ())):
            self.assertEqual(self.ask(thing, "params"), row(*params))
            self.assertEqual(self.ask(self.stand(thing=thing), "params"), row(*params))
        for thing in (self.thing, self.sub, self.stand(), self.view(thing=self.sub)):
            self.asks("wrong", thing, thing, "params")

    def test_text(self):
        text = deed_text(self.store.deed_of(self.add))
        over = put_on(self.store, self.sub, "wrapped", ("around", self.add))
        for thing in (self.add, self.wrap, over, self.stand(thing=over), self.view(thing=self.add)):
            self.assertEqual(self.ask(thing, "text"), text)
        for thing in (self.thing, self.sub, self.stand(), self.view(thing=self.sub), self.two_frames()[1]):
            self.asks("wrong", thing, thing, "text")

    def test_copy_and_deep(self):
        other = self.store.plain(ALL)
        self.store.put(self.thing, "b", other)
        front = self.stand(("give", "own", 9))
        copy = self.ask(front, "copy")
        self.assertEqual((copy, self.store.rows(copy)["own"], self.store.rows(copy)["b"]),
                         (("thing", len(self.store) - 1), 9, other))
        twin = self.store.twin()
        deep = self.ask(front, "deep")
        self.assertEqual(deep, copied_deep(twin, front)[0])
        self.assertTrue(self.store == twin)
        self.assertEqual(self.store.title_of(self.ask(self.stand(thing=self.sub), "copy")), "sub")
        for word in ("copy", "deep"):
            for thing in (self.add, self.wrap, self.two_frames()[1], self.stand(thing=self.add)):
                self.asks("wrong", thing, thing, word)
        self.asks("barred", ALL, ALL, "copy")
        self.asks("wrong", self.sub, self.sub, "deep")
        hides = self.stand(("hide", "own"))
        self.asks("wants", "own", hides, "copy")
        self.asks("wants", "own", hides, "deep")

    def test_sort(self):
        outer = self.two_frames()[1]
        for thing, sort in ((self.thing, "plain"), (self.sub, "kind"), (self.add, "deed"), (self.wrap, "wrap"),
                            (outer, "frame"), (self.stand(), "stand"), (self.view(), "view"),
                            (self.stand(thing=self.view()), "stand"), (self.view(thing=self.stand()), "view")):
            self.assertEqual(self.ask(thing, "sort"), sort)

    def test_within(self):
        outer, inner = self.two_frames()[1:]
        over = put_on(self.store, self.sub, "wrapped", ("kept",))
        front = self.stand(thing=self.wrap)
        part = self.view()
        for thing, found in ((front, self.wrap), (self.stand(thing=front), front), (self.wrap, self.add),
                             (over, self.wrap), (outer, self.thing), (self.stand(thing=part), part)):
            self.assertEqual(self.ask(thing, "within"), found)
        for thing in (self.thing, self.sub, self.add, self.view(), self.view(thing=front), self.view(thing=outer)):
            self.asks("wrong", thing, thing, "within")

    def test_alike(self):
        one, other = (self.store.plain(self.sub, rows={"own": 5, "b": row(1)}) for _ in range(2))
        self.assertEqual(self.ask(one, "alike", other), 1)
        self.assertEqual(self.ask(one, "alike", one), 1)
        self.assertEqual(self.ask(one, "alike", self.thing), 0)
        front = self.stand(thing=one)
        self.assertEqual(self.ask(front, "alike", one), 0)
        self.assertEqual(self.ask(one, "alike", front), 0)
        self.assertEqual(self.ask(front, "alike", front), 1)
        for worth in (5, None, "a", row(one), self.add, self.view(thing=other)):
            self.assertEqual(self.ask(one, "alike", worth), 0)
        view = self.view()
        take_back(self.store, view)
        self.assertEqual(self.ask(one, "alike", view), 0)

    def test_made(self):
        made = self.ask(self.stand(("hide", "new"), thing=self.sub), "made", "new")
        self.assertEqual(made, ("thing", len(self.store) - 1))
        self.assertEqual((self.store.title_of(made), self.store.above(made), self.store.rows(made)), ("new", self.sub, {}))
        self.assertEqual(self.store.above(self.ask(ALL, "made", "own")), ALL)
        for thing in (self.thing, self.add, self.wrap, self.stand(), KINDS, DEEDS, FRAMES, self.stand(thing=KINDS)):
            self.asks("wrong", thing, thing, "made", "new")
        for title in ("A", "me", "", 5, None, row(), self.thing):
            self.asks("wrong", title, self.sub, "made", title)
            self.asks("wrong", title, self.thing, "made", title)

    def test_new(self):
        made = self.ask(self.view("a", thing=self.sub), "new", {"own": 1, "q": self.thing})
        self.assertEqual(made, ("thing", len(self.store) - 1))
        self.assertEqual((self.store.kind_of(made), self.store.rows(made)), (self.sub, {"own": 1, "q": self.thing}))
        self.assertEqual(self.store.rows(ask(self.store, ALL, "new", ({},))), {})
        self.asks("wants", "own", self.sub, "new", {"b": 1})
        for thing in (self.thing, self.add, self.wrap, self.stand(), KINDS, DEEDS, FRAMES, self.stand(thing=FRAMES)):
            self.asks("wrong", thing, thing, "new", {"own": 1})

    def test_stand_and_narrow(self):
        for thing in (self.thing, self.sub, ALL, self.add, self.wrap, self.two_frames()[1], self.stand(), self.view()):
            made = self.ask(thing, "stand")
            self.assertEqual((self.store.sort_of(made), self.store.record(made).behind(), rules_of(self.store, made)),
                             ("stand", thing, ()))
            for part in (("a", "b"), (), tuple(names(20))):
                made = self.ask(thing, "narrow", row(*part))
                self.assertEqual(view_of(self.store, made), (thing, part, None, False))
        for second in (row(*names(21)), row("a", "a"), row("A"), row(1), row(row("a")), "a", 5, None, self.thing):
            self.asks("wrong", second, self.thing, "narrow", second)

    def test_full(self):
        view = self.view()
        frame = self.two_frames()[1]
        while len(self.store) < 200:
            self.store.plain(ALL)
        for word, things in (("copy", ()), ("deep", ()), ("stand", ()), ("narrow", (row(),))):
            self.asks("full", 200, view, word, *things)
        self.asks("full", 200, self.sub, "new", {"own": 1})
        self.asks("full", 200, self.sub, "made", "a")
        self.assertIsNone(self.ask(frame, "above"))


class Refusals(House):

    def test_in_their_order(self):
        for thing in STRANGE_THINGS + (None, 5, "store"):
            self.refused(NoStore, thing, ask, thing, 5, 5, 5)
            self.refused(NoStore, thing, deed_met, thing, 5, 5)
        for thing in NO_THINGS:
            if not self.store.has_thing(thing):
                self.refused(NoThing, thing, ask, self.store, thing, 5, 5)
                self.refused(NoThing, thing, deed_met, self.store, thing, 5)
        for word in ("call", "lit", "", "Get", "row", None, 5, True, [], {}, ("get",), Store()) + STRANGE_THINGS:
            self.refused(NoAsk, word, self.keeps, self.store, ask, self.store, self.thing, word, 5)
        for name in NO_NAMES:
            self.refused(NoName, name, deed_met, self.store, self.add, name)

    def test_how_many_things(self):
        for word, many in ASKS.items():
            things = list(WITH.get(word, ()))
            self.assertEqual(len(things), many - 1)
            wrong = [things + [1], things[:-1] if things else [1, 2], things + [1] * 100, None, 5, "ab", {}, {1: 2}, True]
            for found in wrong + [set(), tuple(things) + (1,)]:
                self.refused(NoList, found, self.keeps, self.store, ask, self.store, self.thing, word, found)
            if many > 1:
                self.assertRaises(NoList, ask, self.store, self.thing, word)

    def test_things_that_are_no_worths(self):
        bad = [thing for thing in STRANGE_THINGS if thing != ()] + [(), ("thing", 200), row(("thing", 200)), Store()]
        for word, many in ASKS.items():
            if many > 1 and word != "new":
                for found in bad:
                    things = [found] + [found] * (many - 2)
                    self.refused(NoWorth, found, self.keeps, self.store, ask, self.store, self.thing, word, things)
        for found in bad:
            self.refused(NoWorth, found, ask, self.store, self.thing, "set", ["A", found])

    def test_rows_of_new(self):
        bad = (None, 5, "a", [], (), row(), {"A": 1}, {"a": True}, {"a": ("thing", 200)}, {1: 1},
               {name: 1 for name in names(31)}, {"a": row(("thing", 200))}, self.thing)
        for found in bad:
            self.refused(NoRows, found, self.keeps, self.store, ask, self.store, self.sub, "new", [found])
            self.refused(NoRows, found, self.keeps, self.store, ask, self.store, self.thing, "new", (found,))

    def test_the_second_thing_ahead_of_gone_and_gone_ahead_of_barred(self):
        self.store.put(self.thing, "call", self.add)
        gone = self.view(thing=self.view(asks=()))
        take_back(self.store, gone)
        front = self.stand(("bar", "own"), ("bar", "b"), ("bar", "new"), thing=gone)
        shut = self.view(asks=())
        for word in ASKS:
            things = WITH.get(word, ())
            self.asks("gone", front, front, word, *things)
            self.asks("barred", word, self.stand(("bar", "own"), thing=shut), word, *things)
            if word not in ("new", "alike") and things:
                for bad in (7, row(7)):
                    self.asks("wrong", bad, front, word, bad, *things[1:])
                    self.asks("wrong", bad, shut, word, bad, *things[1:])
        self.fault("gone", front, deed_met, self.store, front, "own")
        self.fault("barred", "call", deed_met, self.store, shut, "own")

    def test_the_second_thing_of_turn_and_under_is_gone_through_too(self):
        gone = self.view(thing=self.sub)
        take_back(self.store, gone)
        before_gone = self.stand(thing=gone)
        for word in ("turn", "under"):
            shut = self.view(thing=self.sub, asks=tuple(other for other in ASKS if other != word))
            before_shut = self.stand(thing=shut)
            self.asks("gone", before_gone, self.thing, word, before_gone)
            self.asks("barred", word, self.thing, word, before_shut)
            own_shut = self.view(asks=())
            self.asks("barred", word, own_shut, word, before_gone)
            own_gone = self.view()
            take_back(self.store, own_gone)
            self.asks("gone", own_gone, own_gone, word, before_gone)
            self.assertIn(self.ask(self.thing, word, self.view(thing=self.sub, asks=(word,))), (None, 1))
            both = self.view(thing=self.view(thing=self.sub, asks=()))
            take_back(self.store, both)
            self.asks("gone", both, self.thing, word, both)

    def test_each_word_is_barred_by_any_view_on_the_way_and_by_no_other_word(self):
        for word in ASKS:
            things = WITH.get(word, ())
            thing = {"title": self.add, "above": self.sub, "params": self.add, "made": self.sub, "new": self.sub,
                     "text": self.add, "within": self.wrap}.get(word, self.thing)
            lets = self.stand(thing=self.view(thing=thing, asks=(word,)))
            shuts = self.view(thing=self.stand(thing=self.view(
                thing=thing, asks=tuple(other for other in ASKS if other != word) + ("call",))))
            self.ask(lets, word, *things)
            self.asks("barred", word, shuts, word, *things)
            self.asks("barred", word, self.view(thing=lets, asks=()), word, *things)

    def test_an_ask_that_faults_leaves_all_counts_too(self):
        front = self.stand(("count", "own"), ("count", "gone"), ("bar", "own"))
        self.asks("barred", "own", front, "get", "own")
        self.asks("lacks", "gone", front, "get", "gone")
        self.assertEqual(self.store.record(front).counts, {"own": 0, "gone": 0})
        self.assertEqual(remembered(self.store, self.wrap), 3)
        self.assertFalse(is_gone(self.store, front))


class Handed(House):

    def test_by_the_names_of_the_interface_and_unchanged(self):
        things = ["own", 5]
        self.assertIsNone(ask(things=things, word="set", thing=self.thing, store=self.store))
        self.assertEqual(things, ["own", 5])
        rows = {"own": 1}
        made = ask(self.store, self.sub, "new", [rows])
        rows["own"] = 2
        self.assertEqual(self.store.rows(made), {"own": 1})
        self.assertEqual(deed_met(name="add", thing=self.thing, store=self.store), self.add)


if __name__ == "__main__":
    unittest.main()
