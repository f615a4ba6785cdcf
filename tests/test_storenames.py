"""Promises 43 to 45: what names meet, which kind is beneath which, and how rows and kinds are changed."""

import random
import unittest

from checks import Checks, names, row
from deeds import EACH_STATEMENT
from innerlook.errors import NoKind, NoName, NoThing, NoWorth
from innerlook.store import Record, Store
from test_store import ALL, DEEDS, FRAMES, KINDS, NO_NAMES, NO_THINGS

DEED = ("a", (), EACH_STATEMENT)


class Odd(Record):
    """A thing of another sort, as later stages have them."""

    def __init__(self, sort, held=()):
        Record.__init__(self)
        self.sort = sort
        self.held = held

    def sort_word(self):
        return self.sort

    def told(self):
        return (self.held,)

    def twin(self):
        return Odd(self.sort, self.held)

    def moved(self, numbers):
        self.held = tuple(numbers.get(number, number) for number in self.held)


class Built(Checks, unittest.TestCase):

    def setUp(self):
        self.store = store = Store()
        self.top = store.kind("top", rows={"a": "top a", "b": "top b", "c": "top c"})
        self.low = store.kind("low", above=self.top, rows={"d": "low d", "b": "low b"})
        self.thing = store.plain(self.low, rows={"e": "own e", "d": "own d"})
        self.deed = store.deed(DEED)
        self.bare = store.plain(ALL, rows={"z": 1})
        self.others = {sort: store.added(Odd(sort)) for sort in ("wrap", "frame", "stand", "view")}


class Meeting(Built):

    def test_names_met(self):
        for name, whose, worth in (("e", self.thing, "own e"), ("d", self.thing, "own d"), ("b", self.low, "low b"),
                                   ("a", self.top, "top a"), ("c", self.top, "top c")):
            self.assertEqual(self.store.met(self.thing, name), (whose, worth))
        self.assertIsNone(self.store.met(self.thing, "f"))
        self.assertIsNone(self.store.met(self.bare, "a"))
        self.assertEqual(self.store.met(self.bare, "z"), (self.bare, 1))

    def test_names_met_in_kinds(self):
        for name, whose, worth in (("d", self.low, "low d"), ("b", self.low, "low b"), ("a", self.top, "top a")):
            self.assertEqual(self.store.met(self.low, name), (whose, worth))
        self.assertIsNone(self.store.met(self.top, "d"))
        self.assertIsNone(self.store.met(self.low, "e"))
        for kind in (ALL, KINDS, DEEDS, FRAMES):
            self.assertIsNone(self.store.met(kind, "a"))

    def test_a_row_of_none_is_met(self):
        thing = self.store.plain(self.low, rows={"b": None})
        self.assertEqual(self.store.met(thing, "b"), (thing, None))

    def test_all_names_in_their_order(self):
        self.assertEqual(self.store.names(self.thing), ["e", "d", "b", "a", "c"])
        self.assertEqual(self.store.names(self.low), ["d", "b", "a", "c"])
        self.assertEqual(self.store.names(self.top), ["a", "b", "c"])
        self.assertEqual(self.store.names(self.bare), ["z"])
        self.assertEqual(self.store.names(ALL), [])
        self.store.put(self.thing, "a", 0)
        self.assertEqual(self.store.names(self.thing), ["e", "d", "a", "b", "c"])

    def test_just_the_names_told_are_met(self):
        for thing in (self.thing, self.low, self.top, self.bare, self.deed, ALL, KINDS):
            told = self.store.names(thing)
            for name in "abcdefgz":
                self.assertEqual(self.store.met(thing, name) is not None, name in told)

    def test_nothing_of_deeds_wraps_and_frames(self):
        for thing in (self.deed, self.others["wrap"], self.others["frame"]):
            self.assertIsNone(self.store.met(thing, "a"))
            self.assertEqual(self.store.names(thing), [])
            self.refused(NoName, "A", self.store.met, thing, "A")

    def test_stands_and_views_are_wrong_ahead_of_the_name(self):
        for sort in ("stand", "view"):
            thing = self.others[sort]
            self.fault_of_very("wrong", thing, self.store.met, thing, "a")
            self.fault_of_very("wrong", thing, self.store.met, thing, "A")
            self.fault_of_very("wrong", thing, self.store.names, thing)

    def test_refusals(self):
        for thing in NO_THINGS:
            if thing != ("thing", 4):
                self.refused(NoThing, thing, self.store.met, thing, None)
                self.refused(NoThing, thing, self.store.names, thing)
        for name in NO_NAMES:
            self.refused(NoName, name, self.store.met, self.thing, name)
        self.assertEqual(self.store.met(name="e", thing=self.thing), (self.thing, "own e"))

    def test_beneath(self):
        other = self.store.kind("other", above=self.top)
        pairs = ((self.low, self.low), (self.low, self.top), (self.low, ALL), (self.top, self.top), (self.top, ALL),
                 (ALL, ALL), (KINDS, ALL), (DEEDS, ALL), (FRAMES, ALL), (KINDS, KINDS), (DEEDS, DEEDS),
                 (FRAMES, FRAMES), (other, other), (other, self.top), (other, ALL))
        kinds = (ALL, KINDS, DEEDS, FRAMES, self.top, self.low, other)
        for kind in kinds:
            for above in kinds:
                self.assertIs(self.store.is_beneath(kind, above), (kind, above) in pairs, (kind, above))
        self.assertIs(self.store.is_beneath(other=self.top, kind=self.low), True)

    def test_beneath_what_is_no_kind(self):
        for thing in NO_THINGS + (self.thing, self.deed, self.others["stand"], self.others["view"]):
            if thing == ("thing", 4):
                continue
            self.refused(NoKind, thing, self.store.is_beneath, thing, 5)
            self.refused(NoKind, thing, self.store.is_beneath, self.low, thing)


class Putting(Built):

    def test_put(self):
        self.assertIsNone(self.store.put(self.thing, "f", row(self.thing, 1)))
        self.assertIsNone(self.store.put(self.thing, "e", None))
        self.assertEqual(list(self.store.rows(self.thing).items()),
                         [("e", None), ("d", "own d"), ("f", row(self.thing, 1))])
        self.store.put(self.low, "b", 3)
        self.store.put(self.low, "a", 4)
        self.assertEqual(list(self.store.rows(self.low).items()), [("d", "low d"), ("b", 3), ("a", 4)])
        self.store.put(worth=9, name="e", thing=self.thing)
        self.assertEqual(self.store.met(self.thing, "e"), (self.thing, 9))

    def test_put_a_name_of_the_kind(self):
        self.store.put(self.thing, "a", 1)
        self.assertEqual(self.store.met(self.thing, "a"), (self.thing, 1))
        self.assertEqual(self.store.met(self.top, "a"), (self.top, "top a"))

    def test_more_than_thirty_rows(self):
        for name in names(40):
            self.store.put(self.thing, name, 1)
        self.assertEqual(self.store.names(self.thing)[:42], ["e", "d"] + names(40))

    def test_put_refused(self):
        for thing in NO_THINGS:
            if thing != ("thing", 4):
                self.refused(NoThing, thing, self.keeps, self.store, self.store.put, thing, 1, True)
        for name in NO_NAMES:
            for thing in (self.thing, self.others["stand"], ALL, self.deed):
                self.refused(NoName, name, self.keeps, self.store, self.store.put, thing, name, True)
        for worth in (True, [], "x" * 61, ("thing", 13), row(1, row(("thing", 14))), 10 ** 9 + 1, self.store):
            for thing in (self.thing, self.others["view"], ALL, self.deed):
                self.refused(NoWorth, worth, self.keeps, self.store, self.store.put, thing, "a", worth)
        for thing in (ALL, KINDS, DEEDS, FRAMES):
            self.fault_of_very("barred", thing, self.keeps, self.store, self.store.put, thing, "a", 1)
        for thing in (self.deed, *self.others.values()):
            self.fault_of_very("wrong", thing, self.keeps, self.store, self.store.put, thing, "a", 1)

    def test_drop(self):
        self.assertIsNone(self.store.drop(self.thing, "d"))
        self.assertEqual(self.store.met(self.thing, "d"), (self.low, "low d"))
        self.store.drop(name="b", thing=self.low)
        self.assertEqual(self.store.met(self.thing, "b"), (self.top, "top b"))
        self.store.put(self.thing, "d", 5)
        self.assertEqual(list(self.store.rows(self.thing)), ["e", "d"])
        self.store.drop(self.thing, "e")
        self.store.put(self.thing, "e", 6)
        self.assertEqual(list(self.store.rows(self.thing)), ["d", "e"])

    def test_drop_refused(self):
        for thing in NO_THINGS:
            if thing != ("thing", 4):
                self.refused(NoThing, thing, self.keeps, self.store, self.store.drop, thing, 1)
        for name in NO_NAMES:
            for thing in (self.thing, self.others["stand"], ALL, self.deed):
                self.refused(NoName, name, self.keeps, self.store, self.store.drop, thing, name)
        for thing in (ALL, KINDS, DEEDS, FRAMES):
            self.fault_of_very("barred", thing, self.keeps, self.store, self.store.drop, thing, "a")
        for thing in (self.deed, *self.others.values()):
            self.fault_of_very("wrong", thing, self.keeps, self.store, self.store.drop, thing, "a")
        for thing, name in ((self.thing, "a"), (self.thing, "b"), (self.thing, "q"), (self.low, "a"), (self.top, "e")):
            self.fault_of_very("lacks", name, self.keeps, self.store, self.store.drop, thing, name)

    def test_drop_of_what_is_wanted(self):
        top = self.store.kind("wtop", wants=("a", "b"), rows={"a": 1, "c": 1})
        low = self.store.kind("wlow", above=top, wants=("c",), rows={"c": 1, "b": 1})
        thing = self.store.plain(low, rows={"a": 1, "b": 2, "c": 3, "d": 4})
        for name in "abc":
            self.fault_of_very("wants", name, self.keeps, self.store, self.store.drop, thing, name)
        self.store.drop(thing, "d")
        self.store.drop(top, "a")
        self.store.drop(low, "c")
        self.store.drop(low, "b")
        self.fault("lacks", "d", self.store.drop, thing, "d")
        other = self.store.plain(top, rows={"a": 1, "b": 2, "c": 3})
        self.store.drop(other, "c")


class Turning(Built):

    def test_turn(self):
        other = self.store.kind("other", rows={"x": 1})
        self.assertIsNone(self.store.turn(self.thing, other))
        self.assertEqual(self.store.kind_of(self.thing), other)
        self.assertEqual(list(self.store.rows(self.thing).items()), [("e", "own e"), ("d", "own d")])
        self.assertEqual(self.store.names(self.thing), ["e", "d", "x"])
        self.store.turn(kind=ALL, thing=self.thing)
        self.assertEqual(self.store.kind_of(self.thing), ALL)
        self.store.turn(self.thing, ALL)

    def test_turn_refused(self):
        for thing in NO_THINGS:
            if thing != ("thing", 4):
                self.refused(NoThing, thing, self.keeps, self.store, self.store.turn, thing, 1)
                for one in (self.thing, self.deed, ALL, self.others["stand"]):
                    self.refused(NoThing, thing, self.keeps, self.store, self.store.turn, one, thing)
        for thing in (self.deed, ALL, KINDS, self.top, *self.others.values()):
            for kind in (self.top, KINDS, self.deed):
                self.fault_of_very("wrong", thing, self.keeps, self.store, self.store.turn, thing, kind)
        for kind in (KINDS, DEEDS, FRAMES, self.deed, self.bare, self.thing, *self.others.values()):
            self.fault_of_very("wrong", kind, self.keeps, self.store, self.store.turn, self.bare, kind)

    def test_turn_to_a_kind_that_wants(self):
        top = self.store.kind("wtop", wants=("a", "z"), rows={"q": 1})
        low = self.store.kind("wlow", above=top, wants=("q", "a"))
        self.fault("wants", "q", self.keeps, self.store, self.store.turn, self.bare, low)
        self.fault("wants", "a", self.keeps, self.store, self.store.turn, self.bare, top)
        self.store.put(self.bare, "q", 1)
        self.fault("wants", "a", self.keeps, self.store, self.store.turn, self.bare, low)
        self.store.put(self.bare, "a", 1)
        self.store.turn(self.bare, low)
        self.assertEqual(self.store.kind_of(self.bare), low)
        self.fault("wants", "q", self.keeps, self.store, self.store.drop, self.bare, "q")


class OtherSorts(Built):

    def test_what_is_told_of_them(self):
        kinds = {"wrap": DEEDS, "frame": FRAMES}
        for sort, thing in self.others.items():
            self.assertEqual(self.store.sort_of(thing), sort)
            self.assertEqual(self.store.record(thing).sort_word(), sort)
            if sort in kinds:
                self.assertEqual(self.store.kind_of(thing), kinds[sort])
            else:
                self.fault_of_very("wrong", thing, self.store.kind_of, thing)
            self.fault_of_very("wrong", thing, self.store.rows, thing)
            self.fault_of_very("wrong", thing, self.store.deed_of, thing)
            self.refused(NoKind, thing, self.store.title_of, thing)
            self.refused(NoKind, thing, self.keeps, self.store, self.store.plain, thing)

    def test_equality_twins_and_laying(self):
        twin = self.store.twin()
        self.assertTrue(twin == self.store)
        self.assertIsNot(twin.record(self.others["stand"]), self.store.record(self.others["stand"]))
        twin.record(self.others["stand"]).held = (1,)
        self.assertFalse(twin == self.store)
        self.store.lay(twin)
        self.assertTrue(twin == self.store)
        self.assertEqual(self.store.record(self.others["stand"]).told(), ((1,),))
        twin.record(self.others["stand"]).held = (2,)
        self.assertFalse(twin == self.store)

    def test_sorts_of_equal_holding_are_not_equal(self):
        one, other = Store(), Store()
        one.added(Odd("wrap"))
        other.added(Odd("frame"))
        self.assertFalse(one == other)

    def test_added(self):
        while len(self.store) < 200:
            self.assertEqual(self.store.added(Odd("wrap")), ("thing", len(self.store) - 1))
        self.fault("full", 200, self.keeps, self.store, self.store.added, Odd("wrap"))

    def test_a_record_alone(self):
        record = Record()
        self.assertIsInstance(record.sort_word(), str)
        self.assertIsInstance(record.told(), tuple)
        self.assertEqual(record.twin().told(), record.told())
        self.assertIsNone(record.moved({4: 5}))


class Records(Built):

    def test_what_they_have(self):
        record = self.store.record(self.thing)
        self.assertEqual(record.told(), (self.low, (("e", "own e"), ("d", "own d"))))
        self.assertEqual(self.store.record(self.deed).told(), (DEED,))
        for thing in (self.thing, self.low, self.deed, ALL):
            record = self.store.record(thing)
            self.assertIsInstance(record, Record)
            self.assertEqual(record.twin().told(), record.told())
            self.assertEqual(record.twin().sort_word(), self.store.sort_of(thing))
            self.assertIsNot(record.twin(), record)

    def test_a_twin_of_a_record_goes_its_own_way(self):
        record = self.store.record(self.thing)
        twin = record.twin()
        self.store.put(self.thing, "new", 1)
        self.assertNotEqual(twin.told(), record.told())

    def test_put_otherwise(self):
        self.store.put(self.thing, "x", row(self.bare, row(self.low, self.top)))
        self.store.put(self.low, "x", self.bare)
        moves = {self.bare[1]: self.thing[1], self.low[1]: self.top[1], self.top[1]: 0}
        for thing in (self.thing, self.low, self.deed, self.bare, ALL):
            self.assertIsNone(self.store.record(thing).moved(moves))
        self.assertEqual(self.store.record(self.thing).told(), (
            self.top, (("e", "own e"), ("d", "own d"), ("x", row(self.thing, row(self.top, ALL))))))
        self.assertEqual(self.store.record(self.low).told(), (
            "low", ALL, (), (), (("d", "low d"), ("b", "low b"), ("x", self.thing))))
        self.assertEqual(self.store.record(self.bare).told(), (ALL, (("z", 1),)))
        self.assertEqual(self.store.record(ALL).told(), ("all", None, (), (), ()))

    def test_the_record_is_the_thing_s_own(self):
        self.assertIs(self.store.record(self.thing), self.store.record(thing=("thing", self.thing[1])))


class ByChance(Checks, unittest.TestCase):
    """Stores by chance numbers, held against what the points say in other words."""

    def test_what_names_meet(self):
        for seed in range(40):
            chance = random.Random(seed)
            store, kinds, things = Store(), [ALL], []
            for _ in range(8):
                rows = {name: chance.randrange(9) for name in chance.sample("abcdef", chance.randrange(4))}
                kinds.append(store.kind("k", above=chance.choice(kinds), rows=rows))
                things.append(store.plain(chance.choice(kinds), rows=rows))
            for thing in things + kinds:
                whose, order = thing, [thing]
                while whose is not None:
                    is_thing = store.sort_of(whose) == "plain"
                    whose = store.kind_of(whose) if is_thing else store.above(whose)
                    order.append(whose)
                seen = []
                for holder in order[:-1]:
                    for name, worth in store.rows(holder).items():
                        if name not in seen:
                            seen.append(name)
                            self.assertEqual(store.met(thing, name), (holder, worth))
                self.assertEqual(store.names(thing), seen)


if __name__ == "__main__":
    unittest.main()
