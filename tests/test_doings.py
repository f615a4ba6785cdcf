"""Promise 131: what doings are, what they do, and lists of them."""

import unittest

from checks import STRANGE_THINGS, names, row
from deeds import deed
from house import House
from innerlook.asks import ASKS, ask
from innerlook.doings import done, done_all, is_doing
from innerlook.errors import Ended, Fault, InnerError, Missing, NoAsk, NoKind, NoList, NoStore, NoThing, NotThere, Unfit
from innerlook.fronts import rules_of, stand
from innerlook.machine import called
from innerlook.making import exchanged, told_anew
from innerlook.store import Store
from innerlook.views import take_back, view, view_of
from innerlook.wraps import put_on, take_off
from test_fronts import BAD_RULES, GOOD_RULES
from test_store import ALL, NO_NAMES
from test_wraps import BAD_WAYS, GOOD_WAYS

T, U = ("thing", 4), ("thing", 999)
DEED = deed("deed a (n) / give n")
NO_ROWS = (None, 5, "a", [], (), row(), {"A": 1}, {"a": True}, {1: 1}, {"a": []}, {name: 1 for name in names(31)})
NO_THING_FORMS = (None, 5, "a", [], (), ("thing",), ("thing", 1000), ("thing", -1), ("thing", True), ["thing", 1],
                  row(), ("thing", 1, 1), {})
NO_LISTED = (5, "a", ["a"], [], {}, ("a", "a"), ("A",), (1,), tuple(names(7)), True, ((),))
NO_ARGS = (None, 5, [], [1], {}, (True,), (1,) * 21, ([],), "ab", (("thing", 1000),))

# Doings, whole, and for each part what is none in its place.
GOOD = (
    ("plain", T, {}), ("plain", U, {"a": U, "b": row(U)}), ("kind", "a", None, (), (), {}),
    ("kind", "a", T, ("b",), tuple("abcdef"), {"q": 1}), ("deed", DEED), ("deed", ("a", (), ())), ("stand", T, ()),
    ("view", T, None, None), ("view", U, (), ()), ("view", T, tuple(names(20)), tuple(ASKS) + ("call",)),
    ("takeback", T), ("ask", T, "names", ()), ("ask", T, "has", (5,)), ("ask", T, "set", (5, U)),
    ("ask", T, "new", ({},)), ("ask", T, "text", ()), ("call", T, "a", (), {}),
    ("call", U, "a", (1,) * 20, {name: 1 for name in names(30)}), ("wrap", T, "a", ("kept",)), ("unwrap", T, "a", U),
    ("exchange", T, U), ("anew", T, None, None), ("anew", T, (), ("a",)),
)
BAD = (
    ("plain", T, NO_THING_FORMS, 1), ("plain", T, NO_ROWS, 2), ("kind", "a", NO_NAMES, 1),
    ("kind", "a", [thing for thing in NO_THING_FORMS if thing is not None], 2), ("kind", "a", NO_LISTED + (None,), 3),
    ("kind", "a", NO_LISTED + (None,), 4), ("kind", "a", NO_ROWS, 5), ("deed", None, (None, 5, T, (), ["a", (), ()]), 1),
    ("stand", T, NO_THING_FORMS, 1), ("stand", T, [rules for rules in BAD_RULES if rules != ()], 2),
    ("view", T, NO_THING_FORMS, 1), ("view", T, [5, "a", ["a"], [], ("a", "a"), ("A",), (1,), tuple(names(21)), True], 2),
    ("view", T, [5, "get", ["get"], [], ("get", "get"), ("A",), (1,), ("add",), True, (None,), (["get"],)], 3),
    ("takeback", T, NO_THING_FORMS, 1), ("ask", T, NO_THING_FORMS, 1),
    ("ask", T, ("call", "add", "A", "", None, 5, [], ("get",), "has ", "get"), 2),
    ("ask", T, (None, [], 5, {}, (5,), "", True, ({},)), 3), ("call", T, NO_THING_FORMS, 1), ("call", T, NO_NAMES, 2),
    ("call", T, NO_ARGS, 3), ("call", T, NO_ROWS, 4), ("wrap", T, NO_THING_FORMS, 1), ("wrap", T, NO_NAMES, 2),
    ("wrap", T, BAD_WAYS, 3), ("unwrap", T, NO_THING_FORMS, 1), ("unwrap", T, NO_NAMES, 2),
    ("unwrap", T, NO_THING_FORMS, 3), ("exchange", T, NO_THING_FORMS, 1), ("exchange", T, NO_THING_FORMS, 2),
    ("anew", T, NO_THING_FORMS, 1), ("anew", T, NO_LISTED, 2), ("anew", T, NO_LISTED, 3),
)


class Forms(House):

    def test_what_doings_are(self):
        for doing in GOOD:
            self.assertIs(is_doing(doing), True, doing)
        for rules in GOOD_RULES:
            self.assertIs(is_doing(("stand", T, rules)), True)
        for way in GOOD_WAYS:
            self.assertIs(is_doing(("wrap", T, "a", way)), True)
        self.assertIs(is_doing(thing=("takeback", T)), True)

    def test_each_part_of_another_kind(self):
        for word, _, wrong, place in BAD:
            good = next(doing for doing in GOOD if doing[0] == word)
            for part in wrong:
                self.is_none(good[:place] + (part,) + good[place + 1:])

    def is_none(self, thing):
        self.assertIs(is_doing(thing), False, thing)
        self.refused(NoAsk, thing, self.keeps, self.store, done, self.store, thing)

    def test_parts_left_out_and_put_in_and_other_words(self):
        for doing in GOOD:
            self.is_none(doing[:-1])
            self.is_none(doing + (1,))
            self.is_none(doing + ({},))
            self.is_none(list(doing))
            self.is_none(doing[1:])
            self.is_none(("other",) + doing[1:])
            self.is_none((None,) + doing[1:])
            self.is_none(([],) + doing[1:])
            self.is_none((doing,))
        for thing in STRANGE_THINGS + (None, "plain", ("plain",), Store(), 5, ()):
            self.is_none(thing)

    def test_things_of_an_ask_as_its_word_takes(self):
        for word, many in ASKS.items():
            if word == "new":
                for things in ((), ({}, {}), (5,), (row(),), (None,), [{}], {}, ({"A": 1},)):
                    self.is_none(("ask", T, word, things))
                continue
            self.assertIs(is_doing(("ask", T, word, (1,) * (many - 1))), True)
            for things in ((1,) * many, (1,) * (many - 2) if many > 1 else (1, 1), [1] * (many - 1), None, 5):
                self.is_none(("ask", T, word, things))
            for worth in (True, [], {}, ("thing", 1000)):
                if many > 1:
                    self.is_none(("ask", T, word, (worth,) + (1,) * (many - 2)))


class Done(House):

    def same(self, doing, call):
        """A doing, done, tells what its function tells, or comes to the same, and leaves the same Store."""
        self.assertIs(is_doing(doing), True, doing)
        twin = self.store.twin()
        self.assertEqual(self.end(lambda: done(self.store, doing)), self.end(lambda: call(twin)), doing)
        self.assertTrue(self.store == twin, doing)

    def end(self, call):
        try:
            return ("told", call())
        except Fault as fault:
            return ("fault", fault.why, fault.found)
        except (InnerError, Missing, Ended) as error:
            return (error.__class__, vars(error))

    def test_against_the_functions_of_the_stages(self):
        far, thing, kind = ("thing", 900), self.thing, self.sub
        for of in (kind, ALL, ("thing", 1), thing, far):
            for rows in ({"own": 1}, {}, {"own": far}):
                self.same(("plain", of, rows), lambda store: store.plain(of, rows=rows))
                self.same(("ask", of, "new", (rows,)), lambda store: ask(store, of, "new", [rows]))
            self.same(("kind", "q", of, ("a",), ("b",), {"c": 1}),
                      lambda store: store.kind("q", above=of, wants=("a",), shares=("b",), rows={"c": 1}))
            self.same(("anew", of, ("own",), None), lambda store: told_anew(store, of, wants=("own",)))
            self.same(("anew", of, None, ("z",)), lambda store: told_anew(store, of, shares=("z",)))
            self.same(("anew", of, ("q",), None), lambda store: told_anew(store, of, wants=("q",)))
            self.same(("exchange", of, kind), lambda store: exchanged(store, of, kind))
            self.same(("stand", of, (("give", "a", far),)), lambda store: stand(store, of, (("give", "a", far),)))
            self.same(("stand", of, (("count", "own"),)), lambda store: stand(store, of, (("count", "own"),)))
            self.same(("view", of, ("own",), ("get",)), lambda store: view(store, of, names=("own",), asks=("get",)))
            self.same(("takeback", of), lambda store: take_back(store, of))
            for word, things in (("get", ("own",)), ("get", (5,)), ("has", ("own",)), ("set", ("z", far)), ("names", ()),
                                 ("set", ("z", 1)), ("drop", ("own",)), ("copy", ()), ("text", ()), ("under", (kind,))):
                self.same(("ask", of, word, things), lambda store: ask(store, of, word, things))
            for name in ("add", "own", "wrapped", "q"):
                for args, named in (((1,), {}), ((), {"n": 4}), ((far,), {}), ((), {})):
                    self.same(("call", of, name, args, named),
                              lambda store: called(store, of, name, args=args, named=named))
                for way in (("kept",), ("often", 1), ("before", self.add), ("behind", far), ("around", self.open)):
                    self.same(("wrap", of, name, way), lambda store: put_on(store, of, name, way))
                self.same(("unwrap", of, name, self.wrap), lambda store: take_off(store, of, name, self.wrap))
                self.same(("unwrap", of, name, far), lambda store: take_off(store, of, name, far))
        self.same(("kind", "q", None, (), (), {}), lambda store: store.kind("q"))
        self.same(("deed", DEED), lambda store: store.deed(DEED))
        for _ in range(2):
            self.same(("takeback", ("thing", 14)), lambda store: take_back(store, ("thing", 14)))

    def test_what_is_told(self):
        part = done(self.store, ("view", self.thing, ("own",), None))
        self.assertEqual(view_of(self.store, part), (self.thing, ("own",), None, False))
        self.assertIs(done(self.store, ("takeback", part)), True)
        self.assertIs(done(doing=("takeback", part), store=self.store), False)
        front = done(self.store, ("stand", self.thing, (("hide", "a"),)))
        self.assertEqual(rules_of(self.store, front), (("hide", "a"),))
        self.assertEqual(done(self.store, ("call", self.thing, "add", (1,), {"by": 4})), 5)
        self.assertEqual(done(self.store, ("exchange", self.thing, self.thing)), 0)
        self.assertIsNone(done(self.store, ("anew", self.sub, None, None)))

    def test_refused(self):
        for thing in STRANGE_THINGS + (None, 5):
            self.refused(NoStore, thing, done, thing, 5)
            self.refused(NoStore, thing, done_all, thing, 5)
        self.refused(NoKind, self.thing, done, self.store, ("plain", self.thing, {}))
        for error, doing in ((NoThing, ("takeback", U)), (NotThere, ("unwrap", self.sub, "add", self.wrap)),
                             (Unfit, ("wrap", self.sub, "add", ("before", self.open)))):
            self.assertRaises(error, self.keeps, self.store, done, self.store, doing)

    def test_a_fault_leaves_all_counts_too(self):
        front = stand(self.store, self.thing, (("count", "q"), ("count", "own")))
        self.fault("lacks", "q", self.keeps, self.store, done, self.store, ("ask", front, "get", ("q",)))
        self.fault("lacks", "q", self.keeps, self.store, done, self.store, ("call", front, "q", (), {}))

    def test_rows_are_kept_as_copies(self):
        rows = {"own": 1}
        made = done(self.store, ("plain", self.sub, rows))
        rows["own"] = 2
        self.assertEqual(self.store.rows(made), {"own": 1})


class All(House):

    def test_one_behind_the_other(self):
        many = len(self.store)
        new = ("thing", many)
        self.assertEqual(done_all(self.store, [
            ("plain", self.sub, {"own": 5}), ("ask", new, "get", ("own",)), ("ask", new, "get", ("q",)), 5,
            ("plain", new, {}), ("takeback", U), ("takeback", new), ("call", new, "add", (1,), {}),
            ("wrap", self.sub, "add", ("before", self.open)), ("anew", self.sub, None, None), ["plain"]]), [
                ("told", new), ("told", 5), ("fault", "lacks", "q"), ("refused",), ("refused",), ("refused",),
                ("fault", "wrong", new), ("told", 2), ("refused",), ("told", None), ("refused",)])
        self.assertEqual(len(self.store), many + 1)
        self.assertEqual(done_all(doings=(), store=self.store), [])

    def test_at_most_a_hundred(self):
        doing = ("ask", self.thing, "get", ("own",))
        self.assertEqual(done_all(self.store, (doing,) * 100), [("told", 1)] * 100)
        for found in ([doing] * 101, [5] * 101, None, 5, "ab", {}, {1: doing}, True, Store()):
            self.refused(NoList, found, self.keeps, self.store, done_all, self.store, found)
        told = done_all(self.store, [5] * 100)
        self.assertEqual(told, [("refused",)] * 100)

    def test_a_store_is_what_its_doings_make_of_a_new_one(self):
        doings = [("kind", "box", None, ("own",), (), {}), ("deed", DEED), ("plain", T, {"own": ("thing", 5)}),
                  ("call", ("thing", 6), "own", (4,), {}), ("stand", ("thing", 6), (("count", "own"),)),
                  ("ask", ("thing", 7), "get", ("own",)), ("ask", ("thing", 7), "get", ("q",)),
                  ("wrap", ("thing", 6), "own", ("kept",)), ("call", ("thing", 7), "own", (4,), {})]
        one, other = Store(), Store()
        self.assertEqual(done_all(one, doings), done_all(other, tuple(doings)))
        self.assertTrue(one == other)
        self.assertEqual(len(one), 9)
        other.put(("thing", 6), "more", 1)
        self.assertFalse(one == other)


if __name__ == "__main__":
    unittest.main()
