"""Promise 54: all statements of a run that are counted, told one behind the other."""

import unittest

from checks import row
from deeds import deed
from innerlook.errors import Fault
from innerlook.plain import rows_plain, run_plain
from innerlook.trees import places_in
from test_plain import Run
from test_store import ALL


class Rows(Run):

    def told(self, text, *args, **named):
        """What is told of a deed of these rows, which a row of the kind leads to; the Store stays as it was."""
        self.has("go", text)
        return self.keeps(self.store, rows_plain, self.store, self.thing, "go", args=args, named=named)

    def test_statements_with_their_places_and_names(self):
        self.assertEqual(self.told("deed title (b a=2) / let c 1 / if c / do 1 / let a 'x' / end / give a", 7), [
            (1, "title", (0,), [("a", 2), ("b", 7)]),
            (1, "title", (1,), [("a", 2), ("b", 7), ("c", 1)]),
            (1, "title", (1, 0, 0), [("a", 2), ("b", 7), ("c", 1)]),
            (1, "title", (1, 0, 1), [("a", 2), ("b", 7), ("c", 1)]),
            (1, "title", (2,), [("a", "x"), ("b", 7), ("c", 1)])])

    def test_while_is_told_each_time_its_condition_is_looked_at(self):
        told = self.told("deed a () / let n 2 / while n / let n (sub n 1) / end")
        self.assertEqual([(place, names) for _, _, place, names in told], [
            ((0,), []), ((1,), [("n", 2)]), ((1, 0, 0), [("n", 2)]), ((1,), [("n", 1)]), ((1, 0, 0), [("n", 1)]),
            ((1,), [("n", 0)])])

    def test_second_blocks(self):
        told = self.told("deed a () / if 0 / do 1 / else / do 2 / if none / else / do 3 / end / end")
        self.assertEqual([place for _, _, place, _ in told], [(0,), (0, 1, 0), (0, 1, 1), (0, 1, 1, 1, 0)])

    def test_deeds_within_one_another(self):
        self.has("inner", "deed low (x) / let y x / give (call me 'inmost')")
        self.has("inmost", "deed lowest () / give me")
        self.assertEqual(self.told("deed top () / let r (call me 'inner' 5) / give r"), [
            (1, "top", (0,), []), (2, "low", (0,), [("x", 5)]), (2, "low", (1,), [("x", 5), ("y", 5)]),
            (3, "lowest", (0,), []), (1, "top", (1,), [("r", self.thing)])])

    def test_a_statement_is_told_ahead_of_what_it_calls_and_of_what_it_does(self):
        self.has("inner", "deed low () / set me 'own' 1")
        told = self.told("deed top () / do (row (call me 'inner') (call me 'inner'))")
        self.assertEqual([(deep, place) for deep, _, place, _ in told], [(1, (0,)), (2, (0,)), (2, (0,))])

    def test_names_by_their_order_in_python(self):
        told = self.told("deed a (b ab aa *z *aaa) / give 1", 1, 2, 3, z=4, aaa=5)
        self.assertEqual(told, [(1, "a", (0,), [("aa", 3), ("aaa", 5), ("ab", 2), ("b", 1), ("z", 4)])])

    def test_runs_that_come_to_a_fault(self):
        self.assertEqual([place for _, _, place, _ in self.told("deed a () / do 1 / do (add none 1) / do 2")],
                         [(0,), (1,)])
        self.assertEqual(len(self.told("deed a () / while 1 / do 1 / end")), 2000)
        self.assertEqual(len(self.told("deed a () / do here")), 1)
        told = self.told("deed down (n) / do (call me 'go' (add n 1))", 0)
        self.assertEqual([deep for deep, _, _, _ in told], list(range(1, 13)))
        self.assertEqual(self.told("deed a (x)"), [])
        self.assertEqual(self.told("deed a ()", 1), [])
        self.assertEqual(self.told("deed a ()"), [])
        self.assertEqual(rows_plain(self.store, self.thing, "nothing"), [])
        self.assertEqual(rows_plain(self.store, self.thing, "own"), [])

    def test_no_more_than_two_thousand_are_told(self):
        text = "deed a (x) / let n 0 / while (less n x) / let n (add n 1) / end"
        self.assertEqual(len(self.told(text, 998)), 1998)
        self.assertEqual(len(self.told(text, 999)), 2000)
        self.assertEqual(len(self.told(text, 1000)), 2000)
        self.assertEqual(self.told(text, 1000)[-2:], [(1, "a", (1, 0, 0), [("n", 998), ("x", 1000)]),
                                                      (1, "a", (1,), [("n", 999), ("x", 1000)])])

    def test_the_store_is_not_changed(self):
        self.told("deed a () / set me 'own' 1 / do (new x)", x=ALL)
        self.told("deed a (x) / set me 'own' 1 / do (new x) / set me 'own' 2", ALL)
        self.assertEqual(self.store.rows(self.thing)["own"], 5)

    def test_what_is_told_is_new_each_time(self):
        told = self.told("deed a (x) / give x", 1)
        told[0][3].append("more")
        told.clear()
        self.assertEqual(rows_plain(self.store, self.thing, "go", args=(1,)), [(1, "a", (0,), [("x", 1)])])

    def test_by_names(self):
        self.has("go", "deed a (x *y) / give x")
        told = rows_plain(named={"y": 2}, args=[1], name="go", thing=self.thing, store=self.store)
        self.assertEqual(told, [(1, "a", (0,), [("x", 1), ("y", 2)])])
        self.assertRaises(TypeError, rows_plain, self.store, self.thing, "go", [1])

    def test_all_places_told_are_places_of_the_deed(self):
        made = deed("deed a () / let n 3 / while n / if (same n 2) / do 1 / else / do 2 / end / let n (sub n 1) / end")
        self.store.put(self.kind, "go", self.store.deed(made))
        told = [place for _, _, place, _ in rows_plain(self.store, self.thing, "go")]
        self.assertEqual(sorted(set(told)), places_in(made))

    def test_a_worth_is_the_same_with_and_without_rows(self):
        self.has("go", "deed a (x) / set me 'own' (add (get me 'own') x) / give (row (get me 'own') me)")
        rows_plain(self.store, self.thing, "go", args=[1])
        self.assertEqual(run_plain(self.store, self.thing, "go", args=[1]), row(6, self.thing))
        self.assertRaises(Fault, run_plain, self.store, self.thing, "go", args=[None])


if __name__ == "__main__":
    unittest.main()
