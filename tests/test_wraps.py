"""Promises 101 and 102: what ways are, wraps put on and taken off, and what is told of them."""

import unittest

from checks import STRANGE_THINGS, row
from deeds import deed
from house import House
from innerlook.errors import NoName, NoStore, NoThing, NotThere, NoWay, Unfit
from innerlook.machine import called
from innerlook.store import Store
from innerlook.wraps import deed_within, inmost, inner_of, is_way, put_on, remembered, take_off, way_of, wraps_on
from test_store import ALL, DEEDS, KINDS, NO_NAMES, NO_THINGS

GOOD_WAYS = (("before", ("thing", 0)), ("behind", ("thing", 999)), ("around", ("thing", 5)), ("often", 0),
             ("often", 99), ("kept",))
BAD_WAYS = (None, 0, "kept", [], (), {}, ("kept", 1), ("kept", None), ["kept"], ("Kept",), ("",), (None,), ([],), (1,),
            ("often",), ("often", -1), ("often", 100), ("often", True), ("often", "1"), ("often", None), ("often", 1, 2),
            ("before",), ("before", 5), ("before", None), ("before", ("thing", 1000)), ("before", ("thing", -1)),
            ("before", ("thing", True)), ("before", ("row", ())), ("before", ["thing", 1]), ("behind", "a"),
            ("around", ()), ("around", ("thing", 1), 1), ("other", ("thing", 1)), ("before", ("thing",)), (("kept",),))


class Ways(unittest.TestCase):

    def test_what_ways_are(self):
        for way in GOOD_WAYS:
            self.assertIs(is_way(way), True, way)
        for way in BAD_WAYS + STRANGE_THINGS + (Store(),):
            self.assertIs(is_way(way), False, way)
        self.assertIs(is_way(thing=("kept",)), True)


class Wraps(House):

    def setUp(self):
        House.setUp(self)
        self.like = self.store.deed(deed("deed like (n *by=1) / give (onward n)"))
        self.one = self.store.deed(deed("deed one (x more.. *z=1)"))
        self.ways = (("before", self.like), ("behind", self.one), ("around", self.like), ("often", 2), ("kept",))

    def put(self, way, name="add", thing=None):
        return put_on(self.store, self.sub if thing is None else thing, name, way)


class PuttingOn(Wraps):

    def test_each_way(self):
        inner = self.add
        for way in self.ways:
            rows = list(self.store.rows(self.sub))
            wrap = self.put(way)
            self.assertEqual(wrap, ("thing", len(self.store) - 1))
            self.assertEqual(self.store.rows(self.sub)["add"], wrap)
            self.assertEqual(list(self.store.rows(self.sub)), rows)
            self.assertEqual((way_of(self.store, wrap), inner_of(self.store, wrap)), (way, inner))
            self.assertEqual((self.store.sort_of(wrap), self.store.kind_of(wrap)), ("wrap", DEEDS))
            self.assertEqual(remembered(self.store, wrap), {"often": 2, "kept": []}.get(way[0]))
            inner = wrap
        self.assertEqual(inmost(self.store, inner), self.add)
        self.assertEqual(inmost(self.store, self.add), self.add)
        self.assertEqual(deed_within(self.store, self.sub, "add"), self.add)
        told = wraps_on(self.store, self.sub, "add")
        self.assertEqual(told, [("thing", inner[1] - at) for at in range(5)])
        self.assertIs(told.__class__, list)
        self.assertEqual(wraps_on(self.store, self.thing, "open"), [])
        self.assertEqual(deed_within(self.store, self.thing, "open"), self.open)

    def test_by_the_names_of_the_interface(self):
        wrap = put_on(way=("kept",), name="open", thing=self.thing, store=self.store)
        self.assertEqual(wraps_on(name="open", thing=self.thing, store=self.store), [wrap])
        self.assertEqual(deed_within(name="open", thing=self.thing, store=self.store), self.open)
        self.assertEqual(way_of(wrap=wrap, store=self.store), ("kept",))
        self.assertEqual(inner_of(wrap=wrap, store=self.store), self.open)
        self.assertEqual(remembered(wrap=wrap, store=self.store), [])
        self.assertEqual(inmost(one=wrap, store=self.store), self.open)
        self.assertIsNone(take_off(wrap=wrap, name="open", thing=self.thing, store=self.store))

    def test_nothing_is_met_in_wraps(self):
        self.assertIsNone(self.store.met(self.wrap, "own"))
        self.assertEqual(self.store.names(self.wrap), [])

    def refuses(self, error, found, thing, name, way):
        self.refused(error, found, self.keeps, self.store, put_on, self.store, thing, name, way)

    def faults(self, why, found, thing, name, way):
        self.fault(why, found, self.keeps, self.store, put_on, self.store, thing, name, way)

    def test_refused_arguments(self):
        for thing in STRANGE_THINGS + (None, 5, "store"):
            self.refused(NoStore, thing, put_on, thing, 5, 5, 5)
        for thing in NO_THINGS:
            if not self.store.has_thing(thing):
                self.refuses(NoThing, thing, thing, "A", 5)
                for word in ("before", "behind", "around"):
                    if is_way((word, thing)):
                        self.refuses(NoThing, thing, ALL, "gone", (word, thing))
        for name in NO_NAMES:
            self.refuses(NoName, name, ALL, name, 5)
        for way in BAD_WAYS:
            self.refuses(NoWay, way, ALL, "gone", way)

    def test_refused_things_rows_and_deeds(self):
        front = self.stand(thing=self.sub)
        for way in self.ways:
            self.faults("barred", ALL, ALL, "gone", way)
            for thing in (self.add, self.wrap, front, self.view()):
                self.faults("wrong", thing, thing, "gone", way)
            for name in ("gone", "own", "b", "mid", "top"):
                self.refuses(NotThere, name, self.thing, name, way)
            self.refuses(NotThere, "add", self.thing, "add", way)
        for worth in (self.stand(thing=self.add), self.view(thing=self.add), row(self.add), self.thing, self.sub, 1):
            self.store.put(self.thing, "f", worth)
            self.refuses(NotThere, "f", self.thing, "f", ("kept",))
            self.refuses(NotThere, "f", self.thing, "f", ("before", self.thing))
        for other in (self.wrap, self.thing, self.sub, ALL, self.stand(thing=self.add)):
            for word in ("before", "behind", "around"):
                self.faults("wrong", other, self.sub, "add", (word, other))

    def test_unfit_deeds(self):
        for text in ("(n)", "(n *by=2)", "(m *by=1)", "(n by=1)", "(n *by)", "()", "(n.. *by=1)"):
            other = self.store.deed(deed("deed o " + text))
            self.refuses(Unfit, other, self.sub, "add", ("before", other))
            self.refuses(Unfit, other, self.sub, "add", ("around", other))
        for text, fits in (("(n)", True), ("(n m=1)", True), ("(m..)", True), ("(n=1 *m=1)", True), ("()", False),
                           ("(n m)", False), ("(n *m)", False), ("(*n)", False)):
            other = self.store.deed(deed("deed o " + text))
            if fits:
                self.put(("behind", other))
            else:
                self.refuses(Unfit, other, self.sub, "add", ("behind", other))
        self.put(("kept",))
        self.put(("before", self.like))
        self.refuses(Unfit, self.one, self.sub, "add", ("around", self.one))

    def test_full(self):
        while len(self.store) < 200:
            self.store.plain(ALL)
        self.faults("full", 200, self.sub, "add", ("kept",))
        self.refuses(Unfit, self.one, self.sub, "add", ("before", self.one))


class TakingOff(Wraps):

    def test_the_outermost_the_innermost_and_one_between(self):
        for at in range(3):
            self.setUp()
            wraps = [self.put(way) for way in (("kept",), ("often", 3), ("around", self.like))][::-1]
            self.assertEqual(wraps_on(self.store, self.sub, "add"), wraps)
            self.assertIsNone(take_off(self.store, self.sub, "add", wraps[at]))
            left = wraps[:at] + wraps[at + 1:]
            self.assertEqual(wraps_on(self.store, self.sub, "add"), left)
            self.assertEqual(deed_within(self.store, self.sub, "add"), self.add)
            self.assertEqual(inner_of(self.store, left[1]), self.add)
            self.assertEqual(inner_of(self.store, wraps[at]), (wraps + [self.add])[at + 1])
            self.refused(NotThere, wraps[at], self.keeps, self.store, take_off, self.store, self.sub, "add", wraps[at])

    def test_the_row_stays_in_its_place(self):
        rows = self.store.rows(self.sub)
        wrap = self.put(("kept",))
        take_off(self.store, self.sub, "add", wrap)
        self.assertEqual(list(self.store.rows(self.sub).items()), list(rows.items()))

    def test_in_any_order_what_stood_there_stands_there(self):
        wraps = [self.put(way) for way in self.ways]
        for wrap in (wraps[2], wraps[4], wraps[0], wraps[1], wraps[3]):
            take_off(self.store, self.sub, "add", wrap)
        self.assertEqual(self.store.rows(self.sub)["add"], self.add)
        self.assertEqual(wraps_on(self.store, self.sub, "add"), [])

    def test_refused(self):
        wrap = self.put(("kept",))
        for thing in STRANGE_THINGS + (None, 5, "store"):
            self.refused(NoStore, thing, take_off, thing, 5, 5, 5)
            self.refused(NoStore, thing, wraps_on, thing, 5, 5)
            self.refused(NoStore, thing, deed_within, thing, 5, 5)
            for call in (way_of, inner_of, remembered, inmost):
                self.refused(NoStore, thing, call, thing, 5)
        for thing in NO_THINGS:
            if not self.store.has_thing(thing):
                self.refused(NoThing, thing, take_off, self.store, thing, 5, 5)
                self.refused(NoThing, thing, take_off, self.store, self.sub, "add", thing)
                self.refused(NoThing, thing, take_off, self.store, ALL, "gone", thing)
                for call in (wraps_on, deed_within):
                    self.refused(NoThing, thing, call, self.store, thing, 5)
                for call in (way_of, inner_of, remembered):
                    self.refused(NoThing, thing, call, self.store, thing)
        for name in NO_NAMES:
            self.refused(NoName, name, take_off, self.store, ALL, name, 5)
            self.refused(NoName, name, wraps_on, self.store, ALL, name)
            self.refused(NoName, name, deed_within, self.store, ALL, name)
        for thing, name in ((self.sub, "wrapped"), (self.sub, "gone"), (self.thing, "add"), (ALL, "add"), (KINDS, "add"),
                            (self.add, "add"), (wrap, "add"), (self.stand(thing=self.sub), "add"), (self.thing, "own")):
            self.refused(NotThere, wrap, self.keeps, self.store, take_off, self.store, thing, name, wrap)
            if name != "wrapped":
                self.refused(NotThere, name, wraps_on, self.store, thing, name)
                self.refused(NotThere, name, deed_within, self.store, thing, name)
        for thing in (self.add, self.thing, self.wrap, self.stand(thing=wrap)):
            self.refused(NotThere, thing, self.keeps, self.store, take_off, self.store, self.sub, "add", thing)
        for thing in (self.add, self.thing, self.sub, self.stand(thing=wrap), self.view(thing=wrap)):
            for call in (way_of, inner_of, remembered):
                self.fault("wrong", thing, call, self.store, thing)


class AsThings(Wraps):

    def test_twins_equality_and_laying_back(self):
        often, kept = self.put(("often", 2)), self.put(("kept",), "open", self.thing)
        before = self.store.twin()
        self.assertTrue(before == self.store)
        called(self.store, self.thing, "add", args=[1])
        self.assertFalse(before == self.store)
        self.assertEqual((remembered(self.store, often), remembered(before, often)), (1, 2))
        middle = self.store.twin()
        called(self.store, self.thing, "open", args=[1])
        self.assertFalse(middle == self.store)
        self.assertEqual((len(remembered(self.store, kept)), remembered(middle, kept)), (1, []))
        called(middle, self.thing, "open", args=[1])
        self.assertTrue(middle == self.store)
        self.store.lay(before)
        self.assertEqual((remembered(self.store, often), remembered(self.store, kept)), (2, []))
        take_off(self.store, self.thing, "open", kept)
        self.assertFalse(before == self.store)
        self.assertEqual(inner_of(before, kept), self.open)

    def test_ways_and_inner_ones_count_for_equality(self):
        stores = []
        for way in (("often", 2), ("often", 3), ("before", self.like), ("around", self.like), ("kept",)):
            store = self.store.twin()
            put_on(store, self.sub, "add", way)
            stores.append(store)
        self.assertEqual([one == other for one in stores for other in stores].count(True), len(stores))

    def test_what_kept_remembers_counts_but_for_the_order_of_named_ones(self):
        kept = put_on(self.store, self.sub, self.row_of_two(), ("kept",))
        stores = []
        for calls in ([(1, 2)], [(2, 1)], [(1, 2), (3, 4)], [(3, 4), (1, 2)]):
            store = self.store.twin()
            for one, other in calls:
                called(store, self.thing, "two", named={"x": one, "y": other})
            stores.append((store, calls, kept))
        self.assertEqual([one[0] == other[0] for one in stores for other in stores].count(True), 4)
        store, other = self.store.twin(), self.store.twin()
        called(store, self.thing, "two", named={"x": 1, "y": 2})
        called(other, self.thing, "two", named={"y": 2, "x": 1})
        self.assertTrue(store == other)
        self.assertEqual(list(remembered(other, kept)[0][2]), ["y", "x"])

    def row_of_two(self):
        self.has("two", "deed two (x y) / give x")
        return "two"

    def test_what_is_told_is_new_each_time(self):
        kept = put_on(self.store, self.sub, self.row_of_two(), ("kept",))
        called(self.store, self.thing, "two", args=[1], named={"y": 2})
        told = remembered(self.store, kept)
        self.assertEqual(told, [(self.thing, (1,), {"y": 2}, 1)])
        told[0][2]["y"] = 7
        told.append(1)
        self.assertEqual(remembered(self.store, kept), [(self.thing, (1,), {"y": 2}, 1)])
        twin = self.store.twin()
        remembered(twin, kept)[0][2]["y"] = 8
        self.assertEqual(remembered(self.store, kept)[0][2], {"y": 2})

    def test_a_name_of_a_row_that_leads_to_one_wrap_from_two_things(self):
        wrap = self.put(("kept",))
        self.store.put(self.thing, "f", wrap)
        over = self.put(("often", 1), "f", self.thing)
        take_off(self.store, self.sub, "add", wrap)
        self.assertEqual(self.store.rows(self.sub)["add"], self.add)
        self.assertEqual(wraps_on(self.store, self.thing, "f"), [over, wrap])


if __name__ == "__main__":
    unittest.main()
