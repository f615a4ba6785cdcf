"""Promises 3, 41 and 42: what a Store has, how things are made, and what is told of them."""

import unittest

from checks import STRANGE_THINGS, Checks, names, row
from deeds import EACH_STATEMENT, ONE
from innerlook.errors import NoDeed, NoKind, NoList, NoName, NoRows, NoStore, NoThing
from innerlook.store import Store

ALL, KINDS, DEEDS, FRAMES = [("thing", number) for number in range(4)]
DEED = ("a", (("by", "x"),), EACH_STATEMENT)
NO_THINGS = STRANGE_THINGS + (None, 0, "thing", (ALL,), ("thing", 200), ("thing", 999), ("thing", 4), ["thing", 0],
                              ("thing", 0, 0), ("kind", 0), ("thing", "0"), ("thing", False), Store())
NO_NAMES = ("me", "here", "none", "", "A", "abcdefghi", "a b", None, 1, True, [], ("a",), {}, Store())
TELLING = ("sort_of", "kind_of", "rows", "deed_of", "record")
OF_KINDS = ("title_of", "above", "wants", "shares")


def ask(store, word, *args, **named):
    return getattr(store, word)(*args, **named)


class New(Checks, unittest.TestCase):

    def test_the_first_four_things(self):
        store = Store()
        self.assertEqual(len(store), 4)
        self.assertEqual([store.title_of(kind) for kind in (ALL, KINDS, DEEDS, FRAMES)],
                         ["all", "kinds", "deeds", "frames"])
        self.assertIsNone(store.above(ALL))
        for kind in (ALL, KINDS, DEEDS, FRAMES):
            self.assertEqual(store.sort_of(kind), "kind")
            self.assertEqual(store.kind_of(kind), KINDS)
            self.assertEqual((store.rows(kind), store.wants(kind), store.shares(kind)), ({}, (), ()))
        for kind in (KINDS, DEEDS, FRAMES):
            self.assertEqual(store.above(kind), ALL)

    def test_things_that_are_none(self):
        store = Store()
        for thing in NO_THINGS:
            for word in TELLING:
                self.refused(NoThing, thing, ask, store, word, thing)
            for word in OF_KINDS:
                self.refused(NoKind, thing, ask, store, word, thing)

    def test_new_stores_are_equal(self):
        self.assertTrue(Store() == Store())
        for thing in STRANGE_THINGS + (None, 0, "store", 4):
            self.assertFalse(Store() == thing)
            self.assertTrue(Store() != thing)


class Plain(Checks, unittest.TestCase):

    def setUp(self):
        self.store = Store()
        self.top = self.store.kind("top", wants=("a", "b"))
        self.low = self.store.kind("low", above=self.top, wants=["c", "b"])
        self.free = self.store.kind("free")

    def test_what_is_told(self):
        one = self.store.plain(ALL)
        two = self.store.plain(self.free, rows={"x": 1, "a": one, "y": row(one, None)})
        self.assertEqual((one, two), (("thing", 7), ("thing", 8)))
        self.assertEqual([self.store.sort_of(one), self.store.sort_of(two)], ["plain", "plain"])
        self.assertEqual([self.store.kind_of(one), self.store.kind_of(two)], [ALL, self.free])
        self.assertEqual(self.store.rows(one), {})
        self.assertEqual(list(self.store.rows(two).items()), [("x", 1), ("a", one), ("y", row(one, None))])
        for word in OF_KINDS:
            self.refused(NoKind, two, ask, self.store, word, two)
        self.fault_of_very("wrong", two, self.store.deed_of, two)

    def test_no_kind(self):
        thing = self.store.plain(self.free)
        deed = self.store.deed(DEED)
        for kind in (KINDS, DEEDS, FRAMES, thing, deed, ("thing", 9), ("thing", 999)) + NO_THINGS:
            if kind != self.top:  # which is ("thing", 4)
                self.refused(NoKind, kind, self.keeps, self.store, self.store.plain, kind, rows="none")

    def test_no_rows(self):
        for rows in ([], (), "", 0, True, {"A": 1}, {"me": 1}, {1: 1}, {"a": True}, {"a": []}, {"a": ("thing", 7)},
                     {"a": row(row(("thing", 999)))}, {"a": 1, "b": 10 ** 9 + 1}, {None: 1}, {"": 1}, {"a": {}},
                     {name: 1 for name in names(31)}, Store(), ["a"], {"a": "x" * 61}):
            self.refused(NoRows, rows, self.keeps, self.store, self.store.plain, self.low, rows=rows)

    def test_thirty_rows(self):
        rows = {name: at for at, name in enumerate(names(30))}
        self.assertEqual(self.store.rows(self.store.plain(ALL, rows=rows)), rows)

    def test_wants(self):
        for rows, name in (({}, "c"), ({"c": 1}, "b"), ({"c": 1, "b": 1}, "a"), ({"a": 1, "b": 1}, "c"),
                           ({"a": None, "c": 0}, "b"), (None, "c")):
            self.fault("wants", name, self.keeps, self.store, self.store.plain, self.low, rows=rows)
        self.fault("wants", "a", self.store.plain, self.top)
        self.store.plain(self.low, rows={"a": None, "b": 0, "c": ""})

    def test_a_wanted_row_of_the_kind_itself_is_not_the_thing_s_own(self):
        self.store.put(self.top, "a", 1)
        self.fault("wants", "a", self.store.plain, self.top, rows={"b": 1})

    def test_rows_are_kept_as_copies(self):
        rows = {"x": 1}
        thing = self.store.plain(ALL, rows=rows)
        rows["x"] = 2
        rows["y"] = 3
        self.assertEqual(self.store.rows(thing), {"x": 1})
        self.store.put(thing, "x", 5)
        self.assertEqual(rows, {"x": 2, "y": 3})
        self.store.rows(thing)["x"] = 9
        self.assertEqual(self.store.rows(thing), {"x": 5})

    def test_a_full_store(self):
        while len(self.store) < 199:
            self.store.plain(ALL)
        self.assertEqual(self.store.plain(ALL), ("thing", 199))
        self.assertEqual(len(self.store), 200)
        self.fault("full", 200, self.keeps, self.store, self.store.plain, ALL)
        self.fault("full", 200, self.keeps, self.store, self.store.kind, "a")
        self.fault("full", 200, self.keeps, self.store, self.store.deed, DEED)
        self.fault("wants", "c", self.store.plain, self.low)
        self.refused(NoRows, 0, self.store.plain, ALL, rows=0)
        self.refused(NoKind, None, self.store.plain, None)
        self.refused(NoName, None, self.store.kind, None)
        self.refused(NoDeed, None, self.store.deed, None)
        self.assertEqual(len(self.store), 200)
        self.assertTrue(self.store.twin() == self.store)


class Kinds(Checks, unittest.TestCase):

    def test_what_is_told(self):
        store = Store()
        one = store.kind("one")
        rows = {"z": 1, "a": one}
        two = store.kind("two", above=one, wants=["b", "a"], shares=("c",), rows=rows)
        self.assertEqual((one, two), (("thing", 4), ("thing", 5)))
        self.assertEqual([store.title_of(one), store.title_of(two)], ["one", "two"])
        self.assertEqual([store.above(one), store.above(two)], [ALL, one])
        self.assertEqual([store.wants(one), store.wants(two)], [(), ("b", "a")])
        self.assertEqual([store.shares(one), store.shares(two)], [(), ("c",)])
        self.assertEqual(list(store.rows(two).items()), [("z", 1), ("a", one)])
        self.assertEqual([store.sort_of(two), store.kind_of(two)], ["kind", KINDS])
        self.fault_of_very("wrong", two, store.deed_of, two)
        self.assertEqual(store.above(store.kind("three", above=ALL)), ALL)
        self.assertEqual(store.above(store.kind("three", above=None)), ALL)
        self.assertEqual(store.kind("all"), ("thing", 8))

    def test_its_own_wants_and_shares_alone(self):
        store = Store()
        one = store.kind("one", wants=("a",), shares=("b",))
        two = store.kind("two", above=one)
        self.assertEqual((store.wants(two), store.shares(two)), ((), ()))

    def test_six_names_and_seven(self):
        for word in ("wants", "shares"):
            store = Store()
            six, seven = names(6), names(7)
            self.assertEqual(ask(store, word, store.kind("a", **{word: six})), tuple(six))
            for found in (seven, tuple(seven), ["a", "b", "a"], ("a", "a"), "abc", {"a": 1}, None, 5, ["A"], ["me"],
                          [None], [["a"]], (("a",),), ("a", 1), [True], Store()):
                self.refused(NoList, found, self.keeps, store, store.kind, "a", **{word: found}, rows=0)

    def test_refusals_in_their_order(self):
        store = Store()
        good = {"title": "a", "above": ALL, "wants": (), "shares": (), "rows": {}}
        bad = (("title", NoName, []), ("above", NoKind, KINDS), ("wants", NoList, ["a", "a"]), ("shares", NoList, "x"),
               ("rows", NoRows, {"a": ("thing", 4)}))
        for at, (word, error, found) in enumerate(bad):
            given = dict(good)
            for later, _, thing in bad[at:]:
                given[later] = thing
            title = given.pop("title")
            self.refused(error, found, self.keeps, store, store.kind, title, **given)

    def test_no_title(self):
        for title in NO_NAMES:
            self.refused(NoName, title, Store().kind, title)

    def test_no_kind_above(self):
        store = Store()
        thing, deed = store.plain(ALL), store.deed(DEED)
        for above in (KINDS, DEEDS, FRAMES, thing, deed, ("thing", 6), 0, "all", [ALL], False, {}, store):
            self.refused(NoKind, above, self.keeps, store, store.kind, "a", above=above)

    def test_no_rows(self):
        store = Store()
        for rows in ([], False, {"a": ("thing", 4)}, {"A": 1}, {name: 1 for name in names(31)}):
            self.refused(NoRows, rows, self.keeps, store, store.kind, "a", rows=rows)
        self.assertEqual(len(store.rows(store.kind("a", rows={name: 1 for name in names(30)}))), 30)

    def test_kinds_lack_nothing_that_they_want(self):
        store = Store()
        one = store.kind("one", wants=("a",))
        two = store.kind("two", above=one, wants=("b",))
        self.assertEqual(store.rows(two), {})

    def test_lists_and_dicts_are_kept_as_copies(self):
        store = Store()
        wants, shares, rows = ["a"], ["b"], {"c": 1}
        kind = store.kind("k", wants=wants, shares=shares, rows=rows)
        wants.append("x")
        shares.append("y")
        rows["z"] = 1
        self.assertEqual((store.wants(kind), store.shares(kind), store.rows(kind)), (("a",), ("b",), {"c": 1}))
        store.put(kind, "c", 2)
        self.assertEqual(rows, {"c": 1, "z": 1})

    def test_behind_the_star_by_names_alone(self):
        store = Store()
        for call in (lambda: store.kind("a", ALL), lambda: store.plain(ALL, {})):
            self.assertRaises(TypeError, call)
        made = store.kind(rows={"a": 1}, shares=("s",), wants=("w",), above=ALL, title="t")
        self.assertEqual(store.record(made).told(), ("t", ALL, ("w",), ("s",), (("a", 1),)))
        self.assertEqual(store.rows(store.plain(rows={"w": 2}, kind=made)), {"w": 2})


class Deeds(Checks, unittest.TestCase):

    def test_what_is_told(self):
        store = Store()
        deed = store.deed(DEED)
        self.assertEqual(deed, ("thing", 4))
        self.assertEqual(store.deed_of(deed), DEED)
        self.assertEqual([store.sort_of(deed), store.kind_of(deed)], ["deed", DEEDS])
        self.fault_of_very("wrong", deed, store.rows, deed)
        for word in OF_KINDS:
            self.refused(NoKind, deed, ask, store, word, deed)
        self.assertEqual(store.deed(deed=("b", (), ())), ("thing", 5))

    def test_no_deed(self):
        store = Store()
        for thing in (None, 1, "deed a ()", ["a", (), ()], ("a", (), (ONE,)), ("me", (), ()), store) + STRANGE_THINGS:
            if thing != ("row", (), ()):
                self.refused(NoDeed, thing, self.keeps, store, store.deed, thing)


def built(**changes):
    """A Store of some things, with changes told by words."""
    store = Store()
    kind = store.kind(changes.get("title", "k"), wants=changes.get("wants", ("a", "b")),
                      shares=changes.get("shares", ("c", "d")), rows=changes.get("kindrows", {"x": 1, "y": 2}))
    low = store.kind("low", above=changes.get("above", kind))
    rows = changes.get("rows", {"a": 1, "b": "1", "e": None, "f": row(1, kind)})
    store.plain(changes.get("kind", kind), rows=rows)
    store.deed(changes.get("deed", DEED))
    store.plain(low, rows=rows)
    return store


class Equality(Checks, unittest.TestCase):

    def test_stores_of_equal_things_are_equal(self):
        self.assertTrue(built() == built())
        self.assertFalse(built() != built())

    def test_stores_that_differ_in_one_thing(self):
        rows = {"a": 1, "b": "1", "e": None, "f": row(1, ("thing", 4))}
        behind = {"b": "1", "a": 1, "e": None, "f": row(1, ("thing", 4))}
        for changes in ({"title": "kk"}, {"wants": ("a",)}, {"wants": ("b", "a")}, {"shares": ("d", "c")},
                        {"shares": ()}, {"kindrows": {"x": 1}}, {"kindrows": {"y": 2, "x": 1}},
                        {"kindrows": {"x": 1, "y": 3}}, {"above": ALL}, {"rows": {**rows, "a": 2}},
                        {"rows": {**rows, "b": 1}}, {"rows": {**rows, "e": 0}}, {"rows": {**rows, "g": 0}},
                        {"rows": {**rows, "f": row(1, ("thing", 3))}}, {"rows": behind}, {"kind": ALL},
                        {"deed": ("a", (), EACH_STATEMENT)}, {"deed": ("b",) + DEED[1:]},
                        {"deed": DEED[:2] + (EACH_STATEMENT[1:],)}):
            self.assertFalse(built() == built(**changes), changes)
            self.assertTrue(built() != built(**changes), changes)
            self.assertTrue(built(**changes) == built(**changes))

    def test_stores_of_one_thing_more(self):
        store = built()
        store.plain(ALL)
        self.assertFalse(store == built())
        self.assertFalse(built() == store)


class Twins(Checks, unittest.TestCase):

    def test_a_twin_is_equal_and_goes_its_own_way(self):
        store = built()
        twin = store.twin()
        self.assertIsNot(twin, store)
        self.assertTrue(twin == store)
        thing = ("thing", 6)
        twin.put(thing, "new", 1)
        self.assertFalse(twin == store)
        self.assertEqual(store.met(thing, "new"), None)
        store.put(thing, "new", 1)
        self.assertTrue(twin == store)
        store.drop(thing, "e")
        self.assertIn("e", twin.rows(thing))
        store.plain(ALL)
        self.assertEqual(len(twin) + 1, len(store))
        twin.put(("thing", 4), "x", 5)
        self.assertEqual(store.rows(("thing", 4))["x"], 1)
        twin.turn(("thing", 8), ALL)
        self.assertEqual(store.kind_of(("thing", 8)), ("thing", 5))

    def test_kinds_put_anew_by_their_records(self):
        store = built()
        twin = store.twin()
        record = store.record(("thing", 4))
        self.assertEqual((record.own_wants, record.own_shares), (("a", "b"), ("c", "d")))
        record.own_wants = ("q",)
        record.own_shares = ("r",)
        self.assertEqual((store.wants(("thing", 4)), store.shares(("thing", 4))), (("q",), ("r",)))
        self.assertEqual((twin.wants(("thing", 4)), twin.shares(("thing", 4))), (("a", "b"), ("c", "d")))
        self.fault("wants", "q", store.plain, ("thing", 5))

    def test_laid_back(self):
        store = built()
        before = store.twin()
        held = before.twin()
        store.put(("thing", 6), "a", 77)
        store.plain(ALL)
        self.assertIsNone(store.lay(before))
        self.assertTrue(store == before)
        self.assertEqual(len(store), 9)
        store.put(("thing", 6), "a", 78)
        self.assertTrue(before == held)
        store.lay(other=before)
        before.put(("thing", 6), "a", 79)
        before.plain(ALL)
        self.assertTrue(store == held)

    def test_laid_to_itself(self):
        store = built()
        store.lay(store)
        self.assertTrue(store == built())
        store.put(("thing", 6), "a", 77)
        self.assertFalse(store == built())

    def test_laid_to_what_is_no_store(self):
        store = built()
        for thing in STRANGE_THINGS + (None, 0, "store"):
            self.refused(NoStore, thing, self.keeps, store, store.lay, thing)

    def test_what_is_told_is_new_each_time(self):
        store = built()
        told = store.rows(("thing", 6))
        told.clear()
        names_told = store.names(("thing", 6))
        names_told.clear()
        self.assertTrue(store == built())
        self.assertEqual(store.names(("thing", 6)), built().names(("thing", 6)))


if __name__ == "__main__":
    unittest.main()
