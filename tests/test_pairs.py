"""Promises 132 and 133: two runs side by side, and a thing against a stand for it without rules."""

import unittest

from checks import STRANGE_THINGS, row
from house import House
from innerlook.errors import Fault, NoList, NoName, NoRows, NoStore, NoThing
from innerlook.fronts import stand
from innerlook.machine import Machine
from innerlook.pairs import parted
from innerlook.wraps import put_on
from programs import Programs
from test_store import NO_NAMES, NO_THINGS


class Pairs(House):

    def setUp(self):
        House.setUp(self)
        self.other = self.store.plain(self.sub, rows={"own": 1, "b": None})

    def parts(self, text, *args, one=None, other=None, **named):
        """Where runs of a deed of these rows are parted; the Store stays as it was."""
        self.has("try", "deed try " + text)
        return self.keeps(self.store, parted, self.store, one or self.thing, other or self.other, "try", args=args,
                          named=named)

    def test_nowhere_parted(self):
        for text in ("() / give 1", "()", "() / let x me / give (row x me)", "() / set me 'own' 5 / give (get me 'own')",
                     "() / let t (new (look kind me) own=me) / give t", "() / do (add (get me 'own') none)",
                     "() / give (call me 'add' 1)", "() / do (get me me)", "(x) / give 1", "() / give (look sort me)"):
            self.assertIsNone(self.parts(text), text)
        self.assertIsNone(parted(self.store, self.thing, self.other, "gone"))
        self.assertIsNone(parted(self.store, self.thing, self.thing, "open", args=[1]))

    def test_parted_at_a_stop(self):
        self.store.put(self.other, "own", 2)
        self.assertEqual(self.parts("() / let x (get me 'own') / give 1"), ("stop", 1))
        self.assertEqual(self.parts("() / do 1 / do 2 / let x (get me 'own') / do 3 / give x"), ("stop", 3))
        self.assertEqual(self.parts("() / if (sub (get me 'own') 1) / do 1 / else / do 2 / end / give 1"), ("stop", 1))
        self.assertEqual(self.parts("(x) / give x", 1), None)

    def test_parted_by_how_many_frames_and_by_titles(self):
        self.store.put(self.other, "own", 2)
        self.has("zero", "deed zero ()")
        self.has("one", "deed one () / do 1")
        self.has("uno", "deed uno () / do 1")
        deeds = [self.store.met(self.thing, name)[1] for name in ("zero", "one", "uno")]
        self.store.put(self.thing, "f", deeds[0])
        self.store.put(self.other, "f", deeds[1])
        self.assertEqual(self.parts("() / do (call me 'f') / give 1"), ("stop", 1))
        self.store.put(self.thing, "f", deeds[2])
        self.assertEqual(self.parts("() / do (call me 'f') / give 1"), ("stop", 1))
        self.store.put(self.thing, "f", deeds[1])
        self.assertIsNone(self.parts("() / do (call me 'f') / give 1"))

    def put_both(self, one, other):
        """Deeds of these rows in the rows f of the two."""
        self.has("f", "deed f " + one, self.thing)
        self.has("f", "deed f " + other, self.other)

    def test_frames_more_behind_the_same_ones(self):
        self.put_both("()", "() / do 1")
        self.assertEqual(self.parts("() / while (same none (call me 'f')) / end"), ("stop", 1))
        self.assertEqual(self.parts("() / while (same none (call me 'f')) / end", one=self.other, other=self.thing),
                         ("stop", 1))

    def test_names_more_beside_the_same_ones(self):
        for one, other in (("do 1", "let x 1"), ("let x 1", "do 1"), ("let x 1", "let y 1")):
            self.put_both("(a) / " + one + " / do 2", "(a) / " + other + " / do 2")
            self.assertEqual(self.parts("() / do (call me 'f' 1)"), ("stop", 2))
        self.put_both("(a) / let x a / do 2", "(a) / let x 1 / do 2")
        self.assertIsNone(self.parts("() / do (call me 'f' 1)"))

    def test_rows_are_held_against_each_other_part_by_part(self):
        worths = ("5", "(row)", "(row 5)", "(row 5 5)", "(row 5 6)", "(row (row 5))", "none", "'5'")
        for one in worths:
            for other in worths:
                self.setUp()
                self.put_both("() / give " + one, "() / give " + other)
                self.assertEqual(self.parts("() / give (call me 'f')"), None if one == other else ("end",))
                self.put_both("() / let x " + one + " / do 1", "() / let x " + other + " / do 1")
                self.assertEqual(self.parts("() / give (call me 'f')"), None if one == other else ("stop", 2))
                self.put_both("() / do (size (add " + one + " 'a'))", "() / do (size (add " + other + " 'a'))")
                self.assertEqual(self.parts("() / give (call me 'f')"), None if one == other else ("end",))

    def test_where_one_run_alone_stands(self):
        self.store.put(self.other, "own", 0)
        self.assertEqual(self.parts("() / if (get me 'own') / give 1 / end / give 1"), ("stop", 1))
        self.assertEqual(self.parts("() / let x 1 / if (get me 'own') / else / do (get me 'q') / end / give 1"),
                         ("stop", 2))
        self.store.put(self.other, "f", self.add)
        self.assertEqual(parted(self.store, self.thing, self.other, "f", args=[1]), ("stop", 0))
        self.assertEqual(parted(self.store, self.other, self.thing, "f", args=[1]), ("stop", 0))
        self.has("f", "deed f ()")
        self.assertEqual(parted(self.store, self.thing, self.other, "f"), ("end",))
        self.assertEqual(parted(self.store, self.other, self.thing, "f"), ("end",))

    def test_parted_at_the_end(self):
        self.store.put(self.other, "own", 2)
        self.assertEqual(self.parts("() / give (get me 'own')"), ("end",))
        self.assertEqual(self.parts("() / do (add 1 (part (row none 'a') (sub (get me 'own') 1)))"), ("end",))
        self.assertEqual(self.parts("() / do (part (row 1 2 1) (add 1 (get me 'own')))"), ("end",))
        self.store.put(self.other, "b", 4)
        self.assertEqual(self.parts("() / do (add 1 (get me 'b'))"), ("end",))
        self.assertEqual(self.parts("() / do (get me (get me 'own'))"), ("end",))
        self.assertEqual(self.parts("() / give (row 1 (row (get me 'own')))"), ("end",))
        self.assertEqual(parted(self.store, self.thing, self.other, "own"), ("end",))
        self.assertEqual(parted(self.store, self.thing, self.other, "b"), ("end",))

    def test_the_one_and_the_other_are_held_to_be_the_same_and_not_the_other_way(self):
        third = self.store.plain(self.sub, rows={"own": 1})
        for at, thing in enumerate((self.thing, self.other, third)):
            self.store.put(thing, "n", at)
        self.has("f", "deed f () / give (part (row 0 0 0) 0)")
        self.assertIsNone(self.parts("(x) / let y x / give (row x (row y))", self.thing))
        self.assertIsNone(self.parts("(x) / let y x / give (row x (row y))", third))
        self.assertIsNone(self.parts("(x) / let y x / give (row x (row y))", self.other))
        self.store.put(self.thing, "to", self.other)
        self.store.put(self.other, "to", self.thing)
        self.assertEqual(self.parts("() / give (get me 'to')"), ("end",))
        self.store.put(self.other, "to", self.other)
        self.store.put(self.thing, "to", self.thing)
        self.assertIsNone(self.parts("() / give (get me 'to')"))
        self.store.put(self.other, "to", third)
        self.store.put(self.thing, "to", third)
        self.assertIsNone(self.parts("() / give (row (get me 'to'))"))
        self.store.put(self.other, "to", self.thing)
        self.store.put(self.thing, "to", self.thing)
        self.assertIsNone(self.parts("() / give (get me 'to')"))

    def test_args_and_named_have_the_other_in_the_place_of_the_one(self):
        text = "(x *y) / give (row (same me x) (same me (part y 0)) x y)"
        self.assertIsNone(self.parts(text, self.thing, y=row(self.thing, row(self.thing))))
        self.assertEqual(self.parts(text, self.other, y=row(self.thing)), ("end",))
        args, named = [self.thing, row(self.thing)], {"z": self.thing}
        self.has("f", "deed f (x y *z) / let q 1 / give (row (same x me) (same (part y 0) me) (same z me))")
        self.assertIsNone(parted(self.store, self.thing, self.other, "f", args=args, named=named))
        self.assertEqual((args, named), ([self.thing, row(self.thing)], {"z": self.thing}))

    def test_places_and_names(self):
        self.store.put(self.other, "own", 0)
        self.assertEqual(self.parts("() / if (get me 'own') / do 1 / else / do 1 / end"), ("stop", 1))
        self.store.put(self.thing, "f", "x")
        self.store.put(self.other, "f", "y")
        self.assertEqual(self.parts("() / do 0 / if (get me 'own') / let x 1 / else / let y 1 / end / give 1"), ("stop", 2))
        front = self.stand(("give", "try", self.store.deed(self.store.deed_of(self.add))))
        self.has("try", "deed try (n *by=1) / give (add n by)")
        self.assertEqual(parted(self.store, self.thing, front, "try", args=[1]), ("stop", 0))

    def test_waiting_frames_are_held_against_each_other_too(self):
        self.store.put(self.other, "own", 2)
        self.has("low", "deed low () / set (look above here) 'x' (get me 'own') / do 1")
        self.assertEqual(self.parts("() / let x 0 / do (call me 'low') / give 1"), ("stop", 3))
        self.assertEqual(self.parts("() / let x (row) / do (call me 'low') / let x 1 / give 1"), ("stop", 3))

    def test_refused(self):
        for thing in STRANGE_THINGS + (None, 5):
            self.refused(NoStore, thing, parted, thing, 5, 5, 5, args=5, named=5)
        for thing in NO_THINGS:
            if not self.store.has_thing(thing):
                self.refused(NoThing, thing, parted, self.store, thing, 5, 5, args=5, named=5)
                self.refused(NoThing, thing, parted, self.store, self.thing, thing, 5, args=5, named=5)
        for name in NO_NAMES:
            self.refused(NoName, name, parted, self.store, self.thing, self.thing, name, args=5, named=5)
        for args in (5, None, [1] * 21, [True], [("thing", 200)], {}):
            self.refused(NoList, args, parted, self.store, self.thing, self.thing, "q", args=args, named=5)
        for named in (5, [], {"A": 1}, {"a": ("thing", 200)}, {"a": True}):
            self.refused(NoRows, named, parted, self.store, self.thing, self.thing, "q", named=named)
        told = parted(named={"by": 1}, args=(1,), name="add", other=self.other, one=self.thing, store=self.store)
        self.assertIsNone(told)


class AStandWithoutRules(unittest.TestCase):
    """Promise 133, by programs that look within by all but the told looks."""

    LOOKS = ("has", "names", "owner", "under", "params", "title", "copy", "deep", "kind", "narrow")

    def test_never_parted_without_the_told_looks(self):
        ends = {}
        for seed in range(300):
            programs = Programs(seed, looks=self.LOOKS)
            store = programs.store
            # No rows of others lead to this one.
            thing = store.plain(programs.kind, rows=store.rows(programs.things[0]))
            front = stand(store, thing)
            if seed % 3 == 0:
                front = stand(store, front)
            if seed % 4 == 0:
                put_on(store, programs.kind, "g", ("kept",))
            found = parted(store, thing, front, "f", args=[1, 2], named={"t": thing})
            try:
                machine = Machine(store.twin(), thing, "f", args=[1, 2], named={"t": thing})
                machine.run()
                end = "told"
            except Fault as fault:
                end = fault.why
            self.assertIsNone(found, (seed, end))
            ends[end] = ends.get(end, 0) + 1
        self.assertGreater(ends["told"], 40)
        self.assertGreater(len(ends), 1)


class ToldLooks(House):

    def test_each_told_look_parts_a_thing_and_a_stand_for_it(self):
        front = self.stand()
        other = self.store.plain(self.sub, rows={"own": 1})
        for text in ("(x) / give (look sort me)", "(x) / give (same me (part (row x) 0))", "(x) / give (look alike me x)",
                     "(x) / give (look within me)"):
            self.has("try", "deed try " + text)
            self.assertEqual(parted(self.store, other, stand(self.store, other), "try", args=[self.thing]),
                             None if "same" in text or "alike" in text else ("end",), text)
        twin = self.store.plain(self.sub, rows={"own": 1})
        self.has("try", "deed try (x) / give (look alike me x)")
        self.assertEqual(parted(self.store, other, stand(self.store, other), "try", args=[twin]), ("end",))
        self.has("try", "deed try () / give (same me (look within me))")
        self.assertEqual(parted(self.store, self.thing, front, "try"), ("end",))
        self.store.put(self.thing, "itself", self.thing)
        self.has("try", "deed try () / give (same me (get me 'itself'))")
        self.assertEqual(parted(self.store, self.thing, front, "try"), ("end",))

    def test_rules_part(self):
        for rule, stop in ((("hide", "own"), ("end",)), (("give", "own", 2), ("stop", 1)), (("count", "own"), None),
                           (("bar", "own"), ("end",)), (("as", "q", "own"), ("end",))):
            front = self.stand(rule)
            self.has("try", "deed try () / let x (get me 'own') / give x")
            found = parted(self.store, self.thing, front, "try")
            self.assertEqual(found, ("stop", 1) if stop == ("end",) else stop, rule)


if __name__ == "__main__":
    unittest.main()
