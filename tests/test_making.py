"""Promises 121, 123 and 124: deeds and kinds made of texts, what kinds want anew, and deeds held against each other."""

import random
import unittest

from checks import STRANGE_THINGS, names, row
from deeds import deed
from house import House
from innerlook.deedtext import read_deed
from innerlook.errors import Fault, NoDeed, NoKind, NoList, NoName, NoRow, NoStore, NoText, NoThing, Unfit
from innerlook.machine import Machine, called
from innerlook.making import deed_made, first_unlike, kind_made, kind_text, told_anew
from innerlook.plain import run_deed
from innerlook.wraps import put_on
from test_store import ALL, DEEDS, FRAMES, KINDS, NO_NAMES, NO_THINGS

TEXT = "deed f (n)\ngive (add n 1)"


class Made(House):

    def row_refused(self, at, *call):
        with self.assertRaises(NoRow) as caught:
            self.keeps(self.store, *call)
        self.assertEqual(caught.exception.at, at, call[-1])


class Deeds(Made):

    def test_made_and_put(self):
        for text in (TEXT, "\n  deed f (n)  \n\n give (add n 1)\n  "):
            made = deed_made(self.store, self.thing, "q", text)
            self.assertEqual(made, ("thing", len(self.store) - 1))
            self.assertEqual(self.store.deed_of(made), read_deed(TEXT))
            self.assertEqual(self.store.rows(self.thing)["q"], made)
            self.assertEqual(called(self.store, self.thing, "q", args=[4]), 5)
        made = deed_made(text=TEXT, name="add", thing=self.sub, store=self.store)
        self.assertEqual(list(self.store.rows(self.sub)), ["mid", "add", "inner", "wrapped"])
        self.assertEqual(self.store.rows(self.sub)["add"], made)

    def refuses(self, error, found, *args):
        self.refused(error, found, self.keeps, self.store, deed_made, *args)

    def test_refused(self):
        for thing in STRANGE_THINGS + (None, 5):
            self.refused(NoStore, thing, deed_made, thing, 5, 5, 5)
        for thing in NO_THINGS:
            if not self.store.has_thing(thing):
                self.refuses(NoThing, thing, self.store, thing, 5, 5)
        for name in NO_NAMES:
            self.refuses(NoName, name, self.store, ALL, name, 5)
        for text in (None, 5, [], (), {}, True, ("a",)):
            self.refuses(NoText, text, self.store, ALL, "a", text)
        for text, at in (("", 1), ("deed", 0), (TEXT + "\n\nend", 3), ("\n\n", 3), ("deed a ()\nif 1", 2)):
            self.row_refused(at, deed_made, self.store, ALL, "a", text)
        front = self.stand()
        self.fault("barred", ALL, self.keeps, self.store, deed_made, self.store, ALL, "a", TEXT)
        for thing in (self.add, self.wrap, front, self.two_frames()[1]):
            self.fault("wrong", thing, self.keeps, self.store, deed_made, self.store, thing, "a", TEXT)
        while len(self.store) < 200:
            self.store.plain(ALL)
        self.fault("full", 200, self.keeps, self.store, deed_made, self.store, self.thing, "a", TEXT)
        self.fault("wrong", front, self.keeps, self.store, deed_made, self.store, front, "a", TEXT)


class Kinds(Made):

    def made(self, text):
        return kind_made(self.store, self.box, text.replace(" / ", "\n"))

    def test_title_wants_shares_and_rows(self):
        for text, wants, shares, rows in (
                ("kind q", (), (), {}), ("kind q / wants a", ("a",), (), {}), ("kind q / shares b a", (), ("b", "a"), {}),
                ("kind wants / wants a kind / shares a row", ("a", "kind"), ("a", "row"), {}),
                ("kind q / wants a b c d e f / shares a b c d e f / row a 1", tuple("abcdef"), tuple("abcdef"), {"a": 1}),
                ("kind q / row row 'row a 1' / row b [1 #5 [none]]", (), (),
                 {"row": "row a 1", "b": row(1, ("thing", 5), row(None))})):
            made = self.made(text)
            self.assertEqual(made, ("thing", len(self.store) - 1))
            title = text.split(" / ")[0].split(" ")[1]
            self.assertEqual((self.store.title_of(made), self.store.above(made)), (title, self.box))
            self.assertEqual((self.store.wants(made), self.store.shares(made)), (wants, shares))
            self.assertEqual(list(self.store.rows(made).items()), list(rows.items()))

    def test_deeds_are_made_ahead_in_their_order(self):
        many = len(self.store)
        made = self.made("kind q / row g / deed g () / give 5 / done / row a 1 / row f / deed f (n) / if n / give 1 / end"
                         " / done / row b 2")
        self.assertEqual(made, ("thing", many + 2))
        self.assertEqual(list(self.store.rows(made).items()),
                         [("g", ("thing", many)), ("a", 1), ("f", ("thing", many + 1)), ("b", 2)])
        self.assertEqual(self.store.deed_of(("thing", many)), deed("deed g () / give 5"))
        self.assertEqual(self.store.deed_of(("thing", many + 1)), deed("deed f (n) / if n / give 1 / end"))

    def test_blanks_and_empty_rows(self):
        made = self.made("  /  kind q   /  / wants a /   /  row f   /  /   deed f ()  /  /  do 1  /   /  done  /  row a 1 / ")
        self.assertEqual(kind_text(self.store, made), "kind q\nwants a\nrow f\ndeed f ()\ndo 1\ndone\nrow a 1")

    def test_the_first_row_at_which_it_can_not_go_on(self):
        thirty = "".join("\nrow " + name + " 1" for name in names(30))
        deeds = "\nrow f\ndeed f ()\ndone"
        for text, at in (
                ("", 1), ("\n", 2), ("  \n\n ", 3), ("kind", 0), ("kind A", 0), ("kind me", 0), ("kind q r", 0),
                ("kind  q", 0), ("q", 0), ("wants a", 0), ("row a 1", 0), ("deed a ()", 0), ("kind q\nkind q", 1),
                ("kind q\nwants", 1), ("kind q\nwants a a", 1), ("kind q\nwants a  b", 1), ("kind q\nwants A", 1),
                ("kind q\nwants a b c d e f g", 1), ("kind q\nshares", 1), ("kind q\nshares a b a", 1),
                ("kind q\nshares a b c d e f g", 1), ("kind q\nwants a\nwants b", 2), ("kind q\nshares a\nshares b", 2),
                ("kind q\nshares a\nwants b", 2), ("kind q\nrow a 1\nwants b", 2), ("kind q\nrow a 1\nshares b", 2),
                ("kind q\nrow", 1), ("kind q\nrow a b", 1), ("kind q\nrow A 1", 1), ("kind q\nrow a  1", 1), ("kind q\nrow a 1 2", 1),
                ("kind q\nrow a 01", 1), ("kind q\nrow a #200", 1), ("kind q\nrow a [#200]", 1), ("kind q\nrow me 1", 1),
                ("kind q\nrow a 1\nrow a 2", 2), ("kind q\nrow f\ndeed f ()\ndone\nrow f 1", 4),
                ("kind q\nrow a 1\n\nrow a", 3), ("kind q\nrow f\nrow g", 2), ("kind q\nrow f\ndone", 2),
                ("kind q\nrow f", 2), ("kind q\nrow f\n", 3), ("kind q\nrow f\ndeed f ()", 3),
                ("kind q\nrow f\ndeed f ()\nif 1\ndone", 4), ("kind q\nrow f\ndeed f ()\nrow a 1", 3),
                ("kind q\nrow f\ndeed f ()\ndone\ndone", 4), ("kind q\nrow f\ndeed f ()\nend", 3),
                ("kind q" + thirty + "\nrow more 1", 31), ("kind q" + thirty + "\nrow more", 31),
                ("kind q" + thirty + "\n\nwants a", 32), ("kind q\ndone", 1), ("kind q\n'", 1)):
            self.row_refused(at, kind_made, self.store, self.box, text)
        self.assertEqual(len(self.store.rows(kind_made(self.store, ALL, "kind q" + thirty))), 30)
        made = kind_made(self.store, ALL, "kind q" + "".join("\nrow " + name + " 1" for name in names(29)) + deeds)
        self.assertEqual(len(self.store.rows(made)), 30)

    def test_a_row_may_not_lead_to_what_is_made_only_now(self):
        many = len(self.store)
        self.row_refused(4, kind_made, self.store, ALL,
                         "kind q\nrow f\ndeed f ()\ndone\nrow a #" + str(many))
        self.row_refused(1, kind_made, self.store, ALL, "kind q\nrow a #" + str(many))
        self.made("kind q / row a #" + str(many - 1))

    def test_refused(self):
        for thing in STRANGE_THINGS + (None, 5):
            self.refused(NoStore, thing, kind_made, thing, 5, 5)
            self.refused(NoStore, thing, kind_text, thing, 5)
        for thing in NO_THINGS:
            if not self.store.has_thing(thing):
                self.refused(NoThing, thing, kind_made, self.store, thing, 5)
                self.refused(NoThing, thing, kind_text, self.store, thing)
        for thing in (self.thing, self.add, self.wrap, self.stand(thing=self.sub), self.view(thing=self.sub)):
            self.refused(NoKind, thing, self.keeps, self.store, kind_made, self.store, thing, 5)
            self.refused(NoKind, thing, kind_text, self.store, thing)
        for thing in (KINDS, DEEDS, FRAMES):
            self.refused(NoKind, thing, self.keeps, self.store, kind_made, self.store, thing, 5)
        for text in (None, 5, [], (), {}, True):
            self.refused(NoText, text, self.keeps, self.store, kind_made, self.store, self.box, text)
        self.assertEqual(kind_made(text="kind q", above=ALL, store=self.store), ("thing", len(self.store) - 1))

    def test_full(self):
        text = "kind q\nrow f\ndeed f ()\ndone\nrow g\ndeed g ()\ndone"
        while len(self.store) < 198:
            self.store.plain(ALL)
        self.fault("full", 200, self.keeps, self.store, kind_made, self.store, ALL, text)
        self.row_refused(7, kind_made, self.store, ALL, text + "\nend")
        self.assertEqual(kind_made(self.store, ALL, "kind q\nrow f\ndeed f ()\ndone"), ("thing", 199))
        self.fault("full", 200, self.keeps, self.store, kind_made, self.store, ALL, "kind q")

    def test_written(self):
        self.assertEqual(kind_text(self.store, ALL), "kind all")
        self.assertEqual(kind_text(self.store, FRAMES), "kind frames")
        self.assertEqual(kind_text(kind=self.box, store=self.store),
                         "kind box\nwants own\nshares sh\nrow top 'of box'\nrow mid 'hidden'")
        self.store.drop(self.sub, "wrapped")
        self.store.put(self.sub, "last", row(1, "a", row(None)))
        self.assertEqual(kind_text(self.store, self.sub), "\n".join((
            "kind sub", "row mid 'of sub'", "row add", "deed add (n *by=1)", "give (add n by)", "done", "row inner",
            "deed inner (z)", "let w 5", "do w", "give (add z w)", "done", "row last [1 'a' [none]]")))

    def test_what_is_unfit_to_be_written(self):
        for worth in (self.wrap, self.thing, self.sub, ALL, row(self.add), row(1, row(ALL)), self.stand(thing=self.add)):
            kind = self.store.kind("q", rows={"a": 1, "f": self.add, "g": worth, "h": row(self.thing)})
            with self.assertRaises(Unfit) as caught:
                kind_text(self.store, kind)
            self.assertEqual(caught.exception.found, worth)

    def test_a_text_read_again(self):
        kind = self.made("kind q / wants own a / shares b / row a 1 / row f / deed f (n) / give (add n 1) / done / row g / "
                         "deed g () / done / row z 'a b'")
        text = kind_text(self.store, kind)
        again = kind_made(self.store, self.box, text)
        self.assertEqual(kind_text(self.store, again), text)
        for one, other in zip(self.store.rows(kind).items(), self.store.rows(again).items()):
            self.assertEqual(one[0], other[0])
            if one[0] in ("f", "g"):
                self.assertEqual(self.store.deed_of(one[1]), self.store.deed_of(other[1]))
            else:
                self.assertEqual(one[1], other[1])
        many = self.store.kind("many", rows={name: 1 for name in names(30)})
        self.assertEqual(kind_text(self.store, kind_made(self.store, ALL, kind_text(self.store, many))),
                         kind_text(self.store, many))
        self.store.put(many, "more", 1)
        self.row_refused(31, kind_made, self.store, ALL, kind_text(self.store, many))


class Anew(House):

    def test_wants_and_shares(self):
        self.assertIsNone(told_anew(self.store, self.sub, wants=["b", "own"]))
        self.assertEqual((self.store.wants(self.sub), self.store.shares(self.sub)), (("b", "own"), ()))
        told_anew(self.store, self.sub, shares=("a",))
        self.assertEqual((self.store.wants(self.sub), self.store.shares(self.sub)), (("b", "own"), ("a",)))
        told_anew(shares=(), wants=(), kind=self.sub, store=self.store)
        self.assertEqual((self.store.wants(self.sub), self.store.shares(self.sub)), ((), ()))
        told_anew(self.store, self.box)
        self.assertEqual((self.store.wants(self.box), self.store.shares(self.box)), (("own",), ("sh",)))
        told_anew(self.store, self.box, wants=())
        self.store.drop(self.thing, "own")
        self.assertRaises(TypeError, told_anew, self.store, self.box, ())

    def test_what_things_lack(self):
        poor = self.store.plain(self.box, rows={"own": 1})
        self.fault("wants", "q", self.keeps, self.store, told_anew, self.store, self.box, wants=("own", "q", "b"))
        self.fault("wants", "q", self.keeps, self.store, told_anew, self.store, self.box, wants=("b", "q"), shares=("z",))
        self.fault("wants", "open", self.keeps, self.store, told_anew, self.store, self.box, wants=["open"])
        self.store.put(poor, "open", 1)
        told_anew(self.store, self.box, wants=["open"])
        self.store.drop(self.thing, "own")
        self.fault("wants", "own", self.keeps, self.store, told_anew, self.store, self.sub, wants=["own"])

    def test_the_first_thing_that_lacks(self):
        told_anew(self.store, self.box, wants=())
        first = self.store.plain(self.box, rows={"own": 1, "b": 2})
        self.store.plain(self.box, rows={"open": 1})
        self.store.drop(self.thing, "b")
        self.fault("wants", "b", self.keeps, self.store, told_anew, self.store, self.box, wants=("open", "b"))
        self.store.put(self.thing, "b", 1)
        self.fault("wants", "open", self.keeps, self.store, told_anew, self.store, self.box, wants=("open", "b"))
        self.store.put(first, "open", 1)
        self.fault("wants", "b", self.keeps, self.store, told_anew, self.store, self.box, wants=("open", "b"))

    def test_refused(self):
        for thing in STRANGE_THINGS + (None, 5):
            self.refused(NoStore, thing, told_anew, thing, 5, wants=5, shares=5)
        for thing in NO_THINGS:
            if not self.store.has_thing(thing):
                self.refused(NoThing, thing, told_anew, self.store, thing, wants=5, shares=5)
        for thing in (self.thing, self.add, self.wrap, self.stand(thing=self.sub)):
            self.refused(NoKind, thing, told_anew, self.store, thing, wants=5, shares=5)
        for found in (5, "a", {}, ("a", "a"), ["A"], [1], tuple(names(7)), True, ((),)):
            self.refused(NoList, found, self.keeps, self.store, told_anew, self.store, ALL, wants=found, shares=5)
            self.refused(NoList, found, self.keeps, self.store, told_anew, self.store, self.box, wants=(), shares=found)
        for kind in (ALL, KINDS, DEEDS, FRAMES):
            self.fault("barred", kind, self.keeps, self.store, told_anew, self.store, kind)
            self.fault("barred", kind, self.keeps, self.store, told_anew, self.store, kind, wants=("q",))

    def test_lists_are_kept_as_copies(self):
        wants = ["own"]
        told_anew(self.store, self.sub, wants=wants)
        wants.append("zz")
        self.assertEqual(self.store.wants(self.sub), ("own",))

    def test_a_deed_that_runs_goes_on_as_it_was(self):
        machine = Machine(self.store, self.thing, "open", args=[4])
        machine.step()
        deed_made(self.store, self.sub, "inner", TEXT)
        deed_made(self.store, self.thing, "open", TEXT)
        put_on(self.store, self.sub, "inner", ("often", 0))
        self.assertEqual(machine.run(), 9)


class Unlike(House):

    ONE = deed("deed a (n m=0) / give (add n m)")

    def unlike(self, text, *calls, one=None):
        return self.keeps(self.store, first_unlike, self.store, self.thing, one or self.ONE, deed(text), list(calls))

    def test_worths(self):
        calls = (([1], {}), ((2,), {"m": 3}), ([], {"n": 4}), ([5, 6], {}))
        self.assertIsNone(self.unlike("deed b (n m=0) / let x n / give (add m x)", *calls))
        self.assertIsNone(self.unlike("deed b () / give 1"))
        self.assertEqual(self.unlike("deed b (n m=0) / give n", *calls), 1)
        self.assertEqual(self.unlike("deed b (n m=0) / if (same m 6) / give 0 / end / give (add n m)", *calls), 3)
        self.assertEqual(self.unlike("deed b (n m=1) / give (add n m)", *calls), 0)

    def test_faults(self):
        self.assertIsNone(self.unlike("deed b (n m=0) / give (add n m)", (["a"], {}), ([], {}), ([1], {"q": 1})))
        self.assertEqual(self.unlike("deed b (n m=0) / give (add m n)", ([1], {}), (["a"], {"m": "b"})), 1)
        self.assertEqual(self.unlike("deed b (n m=0) / give (sub n m)", ([1], {}), (["a"], {}), ([1], {"m": 1})), 2)
        self.assertEqual(self.unlike("deed b (n m=0 x=0) / give (add n m)", ([1, 2, 3], {})), 0)
        self.assertEqual(self.unlike("deed b (n m) / give (add n m)", ([], {}), ([1], {})), 1)
        self.assertEqual(self.unlike("deed b (n m=0) / give 'wrong'", (["a"], {})), 0)

    def test_stores_that_are_left_behind(self):
        self.assertEqual(self.unlike("deed b (n m=0) / set me 'own' n / give (add n m)", ([1], {}), ([2], {})), 1)
        self.assertEqual(self.unlike("deed b (n m=0) / set me 'q' 1 / give (add n m)", (["a"], {}), ([2], {})), 1)
        self.assertEqual(self.unlike("deed b (n k) / do (new k own=n) / give (add n 0)", ([1, ALL], {}),
                                     one=deed("deed a (n k) / give n")), 0)
        one = deed("deed a () / set me 'x' 1 / set me 'y' 2")
        self.assertEqual(self.unlike("deed b () / set me 'y' 2 / set me 'x' 1", ([], {}), one=one), 0)
        self.assertIsNone(self.unlike("deed b () / set me 'x' 0 / set me 'y' 2 / set me 'x' 1", ([], {}), one=one))

    def test_each_call_is_done_on_a_twin_as_the_store_is(self):
        one = deed("deed a () / set me 'own' (add (get me 'own') 1) / give (get me 'own')")
        self.assertIsNone(self.unlike("deed b () / let x (add (get me 'own') 1) / set me 'own' x / give 2",
                                      *[([], {})] * 3, one=one))

    def test_by_the_plain_runner_with_the_thing_as_me(self):
        self.assertIsNone(self.unlike("deed b () / give here", ([], {}), one=deed("deed a () / let x here")))
        self.assertEqual(self.unlike("deed b () / give me", ([], {}), one=deed("deed a () / give 'me'")), 0)
        front = self.stand()
        self.assertIsNone(first_unlike(self.store, front, self.ONE, deed("deed b (n) / give 1"), [([1], {})]))

    def test_by_chance_as_the_plain_runner_tells(self):
        numbers = random.Random(5)
        texts = ("give n", "give (add n m)", "give (sub n m)", "set me 'own' n", "set me 'own' m", "give (less m n)",
                 "if m / give n / end / give 0", "do (get me 'q')", "give (add m n)")
        for _ in range(200):
            one, other = (deed("deed a (n m=0) / " + numbers.choice(texts)) for _ in range(2))
            calls = [([numbers.randrange(3)], {} if numbers.random() < 0.5 else {"m": numbers.randrange(2)})
                     for _ in range(numbers.randrange(5))]
            unlike = [at for at, call in enumerate(calls) if self.end(one, call) != self.end(other, call)]
            self.assertEqual(first_unlike(self.store, self.thing, one, other, calls), unlike[0] if unlike else None)

    def end(self, tree, call):
        twin = self.store.twin()
        try:
            told = run_deed(twin, self.thing, tree, args=call[0], named=call[1])
        except Fault as fault:
            told = (fault.why, fault.found)
        return told, list(twin.rows(self.thing).items())

    def test_refused(self):
        for thing in STRANGE_THINGS + (None, 5):
            self.refused(NoStore, thing, first_unlike, thing, 5, 5, 5, 5)
        for thing in NO_THINGS:
            if not self.store.has_thing(thing):
                self.refused(NoThing, thing, first_unlike, self.store, thing, 5, 5, 5)
        for found in (None, 5, "deed", (), [], ("a", (), ()) + (1,), self.add, ["a", (), ()]):
            self.refused(NoDeed, found, first_unlike, self.store, self.thing, found, 5, 5)
            self.refused(NoDeed, found, first_unlike, self.store, self.thing, self.ONE, found, 5)
        for found in (None, 5, "ab", {}, [5], [()], [([],)], [([], None)], [[[], {}]], [([], {}, {})], [(5, {})],
                      [([1] * 21, {})], [([True], {})], [([], {"A": 1})], [([], {"a": []})], [([("thing", 200)], {})],
                      [([], {"a": row(("thing", 200))})], [([], {}), None], ([], {}), True):
            self.refused(NoList, found, first_unlike, self.store, self.thing, self.ONE, self.ONE, found)
        calls = ((([]), {}),)
        self.assertIsNone(first_unlike(calls=calls, other=self.ONE, one=self.ONE, thing=self.thing, store=self.store))


if __name__ == "__main__":
    unittest.main()
