"""Promises 111 to 113: Machines, their stops and frames, worths that are set, and what ends them."""

import unittest

from checks import STRANGE_THINGS, row
from deeds import deed
from house import House
from innerlook.errors import Ended, NoList, NoName, NoRows, NoStore, NoThing, NotThere, NoWorth
from innerlook.fronts import counted
from innerlook.machine import Machine, called
from innerlook.store import Store
from innerlook.views import is_gone, take_back
from innerlook.wraps import put_on, remembered
from test_store import ALL, NO_NAMES, NO_THINGS


class Machines(House):

    def machine(self, text, *args, me=None, **named):
        """A Machine at the first stop of a deed of these rows."""
        self.has("try", "deed try " + text)
        return Machine(self.store, self.thing if me is None else me, "try", args=args, named=named)

    def ended(self, found, call, *args):
        with self.assertRaises(Ended) as caught:
            call(*args)
        self.assertEqual(caught.exception.found, found)

    def is_done_without_worth(self, machine):
        self.assertIs(machine.is_done(), True)
        self.assertEqual(machine.frames(), [])
        self.assertEqual(machine.frames_told(), [])
        for call in (machine.worth, machine.step, machine.run, machine.call_off):
            self.ended("done", call)


class Making(Machines):

    def test_refused(self):
        for thing in STRANGE_THINGS + (None, 5, "store"):
            for call in (Machine, called):
                self.refused(NoStore, thing, call, thing, 5, 5, args=5, named=5)
        for call in (Machine, called):
            for thing in NO_THINGS:
                if not self.store.has_thing(thing):
                    self.refused(NoThing, thing, call, self.store, thing, 5, args=5, named=5)
            for name in NO_NAMES:
                self.refused(NoName, name, call, self.store, self.thing, name, args=5, named=5)
            for args in (None, 5, "ab", {}, [1] * 21, [True], [("thing", 200)], [row(("thing", 200))], ([],)):
                self.refused(NoList, args, call, self.store, self.thing, "q", args=args, named=5)
            for named in (5, [], "a", {"A": 1}, {"a": True}, {"a": ("thing", 200)}, {1: 1}, ()):
                self.refused(NoRows, named, call, self.store, self.thing, "q", named=named)
            self.assertRaises(TypeError, call, self.store, self.thing, "add", [1])

    def test_faults_of_the_call_leave_all_as_it_was(self):
        gone = self.view()
        take_back(self.store, gone)
        front = self.stand(("bar", "b"), ("count", "q"), ("count", "add"), ("as", "c", "b"))
        for why, found, thing, name in (
                ("lacks", "q", front, "q"), ("barred", "b", front, "b"), ("barred", "b", self.stand(
                    ("as", "d", "b"), thing=front), "d"), ("gone", gone, gone, "add"), ("wrong", 1, self.thing, "own"),
                ("barred", "call", self.view(asks=()), "add"), ("lacks", "n", front, "add"),
                ("lacks", "q", self.two_frames()[1], "q")):
            for call in (Machine, called):
                self.fault(why, found, self.keeps, self.store, call, self.store, thing, name)
        self.assertEqual(counted(self.store, front), {"q": 0, "add": 0})

    def test_by_names_and_unchanged(self):
        args, named = [4], {"by": 2}
        machine = Machine(named=named, args=args, name="add", thing=self.thing, store=self.store)
        args.append(1)
        named["by"] = 9
        self.assertEqual(machine.run(), 6)
        self.assertEqual(called(named={"by": 2}, args=(4,), name="add", thing=self.thing, store=self.store), 6)
        self.assertEqual((args, named), ([4, 1], {"by": 9}))

    def test_a_deed_without_statements_is_done_at_once(self):
        front = self.stand(("count", "try"))
        machine = self.machine("(x)", 1, me=front)
        self.assertIs(machine.is_done(), True)
        self.assertIsNone(machine.worth())
        self.assertEqual((machine.counted(), machine.frames(), machine.frames_told()), (0, [], []))
        for call in (machine.step, machine.run, machine.call_off):
            self.ended("done", call)
        self.assertEqual(counted(self.store, front), {"try": 1})
        self.assertIsNone(called(self.store, self.thing, "try", args=[1]))
        put_on(self.store, self.sub, "try", ("before", self.store.deed(deed("deed b (x)"))))
        self.assertIs(Machine(self.store, self.thing, "try", args=[1]).is_done(), True)

    def test_a_wrap_without_deed_is_done_at_once(self):
        put_on(self.store, self.sub, "add", ("often", 0))
        self.assertIs(Machine(self.store, self.thing, "add").is_done(), True)


class Stops(Machines):

    def test_ahead_of_each_statement(self):
        machine = self.machine("(n) / let x 1 / if x / do n / end / while (less n 2) / let n (add n 1) / end / give n", 1)
        seen = []
        while not machine.is_done():
            seen.append((machine.frames_told(), machine.counted()))
            self.ended("running", machine.worth)
            self.assertIsNone(machine.step())
        self.assertEqual(seen, [([("try", place, names)], at) for at, (place, names) in enumerate((
            ((0,), {"n": 1}), ((1,), {"n": 1, "x": 1}), ((1, 0, 0), {"n": 1, "x": 1}), ((2,), {"n": 1, "x": 1}),
            ((2, 0, 0), {"n": 1, "x": 1}), ((2,), {"n": 2, "x": 1}), ((3,), {"n": 2, "x": 1})))])
        self.assertEqual((machine.worth(), machine.counted()), (2, 7))
        for call in (machine.step, machine.run, machine.call_off):
            self.ended("done", call)
        self.assertEqual(machine.worth(), 2)

    def test_frames_the_outermost_first(self):
        machine, outer, inner = self.two_frames()
        self.assertEqual(machine.frames(), [outer, inner])
        self.assertEqual([machine.title_of(frame) for frame in (outer, inner)], ["open", "inner"])
        self.assertEqual([machine.place(frame) for frame in (outer, inner)], [(0,), (1,)])
        self.assertEqual([machine.names(frame) for frame in (outer, inner)], [{"x": 4}, {"w": 5, "z": 4}])
        self.assertEqual([machine.me(frame) for frame in (outer, inner)], [self.thing, self.thing])
        self.assertEqual(machine.frames_told(), [("open", (0,), {"x": 4}), ("inner", (1,), {"w": 5, "z": 4})])
        many = len(self.store)
        machine.step()
        machine.step()
        self.assertEqual(machine.frames(), [outer])
        self.assertEqual(len(self.store), many)
        self.assertEqual(machine.names(outer), {"x": 4, "y": 9})
        self.assertEqual(machine.run(), 9)
        self.assertEqual(machine.frames(), [])

    def test_names_by_their_order_and_new_each_time(self):
        machine = self.machine("(b ab aa *z *aaa) / do 1 / give ab", 1, 2, 3, z=4, aaa=5)
        frame = machine.frames()[0]
        told = machine.names(frame)
        self.assertEqual(list(told.items()), [("aa", 3), ("aaa", 5), ("ab", 2), ("b", 1), ("z", 4)])
        told["ab"] = 7
        machine.frames().append(1)
        machine.frames_told()[0][2]["ab"] = 8
        self.assertEqual(list(machine.frames_told()[0][2]), ["aa", "aaa", "ab", "b", "z"])
        self.assertEqual(machine.run(), 2)

    def test_me_is_a_front_itself(self):
        front = self.stand(("as", "q", "open"), thing=self.view())
        machine = Machine(self.store, front, "q", args=[1])
        machine.step()
        self.assertEqual([machine.me(frame) for frame in machine.frames()], [front, front])

    def test_telling_makes_no_things_but_for_frames(self):
        machine = self.machine("() / give (call me 'add' 1)")
        machine.step()
        many = len(self.store)
        machine.frames_told()
        machine.counted()
        machine.is_done()
        self.assertEqual(len(self.store), many)
        self.assertEqual(machine.frames(), [("thing", many), ("thing", many + 1)])

    def test_not_there(self):
        other, _, of_other = self.two_frames()
        machine, outer, inner = self.two_frames()
        machine.step()
        machine.step()
        for found in STRANGE_THINGS + (None, inner, of_other, self.thing, self.stand(thing=outer), ("thing", 200), ALL,
                                       self.view(thing=outer), Store(), ("thing", False), "open"):
            for call in (machine.title_of, machine.place, machine.names, machine.me):
                self.refused(NotThere, found, self.keeps, self.store, call, found)
            self.refused(NotThere, found, self.keeps, self.store, machine.set_worth, found, 5, ())
        self.assertEqual(other.title_of(of_other), "inner")
        machine.run()
        self.refused(NotThere, outer, machine.names, outer)

    def test_not_there_while_no_frame_is_told(self):
        machine = self.machine("() / give 1")
        for found in (None, self.thing, ("thing", len(self.store))):
            self.refused(NotThere, found, machine.names, found)
            self.refused(NotThere, found, machine.set_worth, found, "a", 1)

    def test_full_of_frames(self):
        while len(self.store) < 198:
            self.store.plain(ALL)
        twin = self.store.twin()
        machine = Machine(twin, self.thing, "open", args=[4])
        machine.step()
        self.assertEqual(machine.frames(), [("thing", 198), ("thing", 199)])
        machine = Machine(self.store, self.thing, "open", args=[4])
        machine.step()
        self.store.plain(ALL)
        self.fault("full", 200, self.keeps, self.store, machine.frames)
        self.assertEqual(machine.frames_told()[1][0], "inner")
        self.assertEqual(machine.run(), 9)
        self.has("try", "deed try () / give here")
        self.fault("full", 200, self.keeps, self.store, called, self.store, self.thing, "try")
        machine = Machine(self.store, self.thing, "add", args=[4])
        self.fault("full", 200, machine.frames)
        self.assertIs(machine.is_done(), False)

    def test_long(self):
        text = "(x) / let n 0 / while (less n x) / let n (add n 1) / end"
        machine = self.machine(text, 999)
        self.assertIsNone(machine.run())
        self.assertEqual(machine.counted(), 2000)
        machine = self.machine(text, 1000)
        for _ in range(1999):
            machine.step()
        self.assertEqual((machine.is_done(), machine.counted()), (False, 1999))
        self.fault("long", 2000, machine.step)
        self.assertEqual(machine.counted(), 2000)
        self.is_done_without_worth(machine)

    def test_deep(self):
        self.has("down", "deed down (n) / if n / do (call me 'down' (sub n 1)) / end")
        self.assertIsNone(called(self.store, self.thing, "down", args=[11]))
        self.fault("deep", 12, called, self.store, self.thing, "down", args=[12])
        self.has("down", "deed down (n) / do (call me 'down')")
        self.fault("lacks", "n", called, self.store, self.thing, "down", args=[1])


class Setting(Machines):

    def test_goes_on_as_if_a_let_had_stood_there(self):
        machine, outer, inner = self.two_frames()
        self.assertIsNone(machine.set_worth(inner, "z", 10))
        self.assertIsNone(machine.set_worth(outer, "x", row(outer)))
        self.assertEqual(machine.names(inner), {"w": 5, "z": 10})
        self.assertEqual(self.ask(inner, "get", "z"), 10)
        self.assertEqual(machine.run(), 15)

    def test_refused(self):
        machine, outer, inner = self.two_frames()
        self.refused(NotThere, self.thing, machine.set_worth, self.thing, 5, ())
        for name in NO_NAMES:
            self.refused(NoName, name, machine.set_worth, inner, name, ())
        for worth in STRANGE_THINGS + (("thing", 200), row(("thing", 200)), Store()):
            self.refused(NoWorth, worth, self.keeps, self.store, machine.set_worth, inner, "q", worth)
        self.fault("lacks", "x", self.keeps, self.store, machine.set_worth, inner, "x", 1)
        self.fault("lacks", "y", machine.set_worth, outer, "y", 1)
        machine.set_worth(worth=1, name="z", frame=inner)
        self.assertEqual(machine.run(), 6)

    def test_a_program_sees_it_and_sets_it(self):
        self.has("spy", "deed spy () / let f (look above here) / set f 'x' (add (get f 'x') 5) / give (look names f)")
        machine = self.machine("(x) / let y (call me 'spy') / give (row x y)", 1)
        frame = machine.frames()[0]
        machine.set_worth(frame, "x", 2)
        machine.step()
        self.assertEqual(machine.run(), row(7, row("x")))
        self.assertEqual(called(self.store, self.thing, "try", args=[1]), row(6, row("x")))


class Ends(Machines):

    def test_a_fault_lays_all_back(self):
        front = self.stand(("count", "own"))
        often = put_on(self.store, self.sub, "add", ("often", 5))
        self.has("try", "deed try (f) / set me 'own' 9 / do (get f 'own') / do (call me 'add' 1) / do (new (look kind me)"
                 " own=1) / let g here / do (look stand me) / do (get me 'q')")
        before = self.store.twin()
        machine = Machine(self.store, self.thing, "try", args=[front])
        for at in range(7):
            self.assertEqual(machine.counted(), at)
            machine.step()
        self.assertFalse(self.store == before)
        self.fault("lacks", "q", machine.step)
        self.assertTrue(self.store == before)
        self.assertEqual((machine.counted(), counted(self.store, front), remembered(self.store, often)),
                         (8, {"own": 0}, 5))
        self.is_done_without_worth(machine)
        self.fault("lacks", "q", self.keeps, self.store, Machine(self.store, self.thing, "try", args=[front]).run)
        self.fault("lacks", "q", self.keeps, self.store, called, self.store, self.thing, "try", args=[front])

    def test_each_word_of_a_fault_by_steps_and_by_a_run(self):
        gone = self.view()
        take_back(self.store, gone)
        self.has("down", "deed down () / do (call me 'down')")
        lines = {
            "wrong": ("a", "do (add 1 'a')"), "lacks": ("q", "do (get me 'q')"), "many": (3, "do (call me 'add' 1 2 3)"),
            "twice": ("n", "do (call me 'add' 1 n=2)"), "strange": ("q", "do (call me 'add' 1 q=2)"),
            "wants": ("own", "do (new (look kind me))"), "far": (10 ** 9 + 1, "do (add 1000000000 1)"),
            "barred": ("own", "do (get b 'own')"), "gone": (gone, "do (get a 'own')"), "long": (2000, "while 1 / end"),
            "full": (200, "while 1 / do (look stand me) / end"), "deep": (12, "do (call me 'down')")}
        for why, (found, text) in lines.items():
            self.has("try", "deed try (a b) / set me 'own' 7 / " + text + " / give 1")
            args = [gone, self.stand(("bar", "own"))]
            before = self.store.twin()
            for by_steps in (True, False):
                machine = Machine(self.store, self.thing, "try", args=args)
                self.fault(why, found, self.all_steps if by_steps else machine.run, *([machine] if by_steps else []))
                self.assertTrue(self.store == before, why)
                self.is_done_without_worth(machine)
            self.fault(why, found, self.keeps, self.store, called, self.store, self.thing, "try", args=args)

    def all_steps(self, machine):
        while not machine.is_done():
            machine.step()

    def test_called_off(self):
        before = self.store.twin()
        machine, outer, inner = self.two_frames()
        self.ask(self.thing, "set", "own", 7)
        self.assertIsNone(machine.call_off())
        self.assertTrue(self.store == before)
        self.assertEqual(machine.counted(), 2)
        self.is_done_without_worth(machine)
        machine = self.machine("() / give 1")
        machine.call_off()
        self.is_done_without_worth(machine)

    def test_views_that_were_taken_back_in_between_are_there_again(self):
        view = self.view()
        machine = self.machine("() / give 1")
        take_back(self.store, view)
        machine.call_off()
        self.assertIs(is_gone(self.store, view), False)

    def test_a_deed_that_runs_goes_on_as_it_was(self):
        machine, outer, inner = self.two_frames()
        self.has("inner", "deed inner (z) / give 77")
        self.has("open", "deed open (x) / give 78", self.thing)
        self.assertEqual(machine.run(), 9)


class Expressions(Machines):

    def test_looks_and_asks(self):
        for text, worth in (
                ("(look names me)", row("own", "b", "open", "mid", "add", "inner", "wrapped", "try", "top")),
                ("(look has me 'own')", 1), ("(look title (look kind me))", "sub"), ("(look sort me)", "plain"),
                ("(look title here)", "try"), ("(look above here)", None), ("(look params (get me 'add'))", row("n", "by")),
                ("(get here 'a')", 7), ("(look names here)", row("a", "b", "c")), ("(same me (look within here))", 1),
                ("(look under me (look above (look kind me)))", 1), ("(look owner me 'top')", self.box),
                ("(get (new (look kind me) own=5) 'own')", 5), ("(look alike (look copy me) me)", 1),
                ("(look sort (look stand me))", "stand"), ("(look names (look narrow me (row 'b' 'own')))", row("own", "b")),
                ("(call (look stand me) 'add' 2 by=5)", 7), ("(look title (look made (look kind me) 'new'))", "new")):
            self.assertEqual(self.does("give " + text, 7), worth, text)

    def test_statements_that_ask(self):
        self.assertIsNone(self.does("set (look stand me) 'b' 5 / do (look turn me (look kind me))"))
        self.assertEqual(self.store.rows(self.thing)["b"], 5)
        self.assertIsNone(self.does("give (look drop me 'b')"))
        self.assertEqual(list(self.store.rows(self.thing)), ["own", "open"])

    def test_what_is_no_thing_is_wrong_first(self):
        for worth, text in ((5, "5"), (None, "none"), ("me", "'me'"), (row(self.thing), "(row me)")):
            for word in ("look has {} 9", "look names {}", "look kind {}", "look turn {} 9", "look alike {} me",
                         "look made {} 'A'", "look narrow {} 9", "get {} 9", "call {} 9", "new {}", "look stand {}",
                         "new {} own=1"):
                self.breaks("wrong", worth, "give (" + word.format(text) + ")")
            self.breaks("wrong", worth, "set " + text + " 9 9")
        self.breaks("wrong", 9, "give (get me 9)")
        self.breaks("wrong", 9, "give (call me 9)")
        self.breaks("wrong", 9, "set me 9 9")
        self.breaks("wrong", 9, "give (look made me 9)")

    def test_all_parts_are_reckoned_first_from_left_to_right(self):
        for text in ("(look has 5 q)", "(look turn me q)", "(get 5 q)", "(call 5 q r)", "(call 5 6 7 x=q)", "(new 5 x=q)",
                     "(look alike q r)", "(add 'a' q)", "(row q r)"):
            self.breaks("lacks", "q", "give " + text)
        self.breaks("lacks", "q", "set 5 q r")
        self.assertEqual(self.does("give (row (call me 'add' 1) (call me 'add' 2) (call me 'add' (call me 'add' 3)))"),
                         row(2, 3, 5))

    def test_faults_of_plain_expressions(self):
        for why, found, text in (("wrong", "a", "(add 1 'a')"), ("far", 10 ** 9 + 1, "(add 1000000000 1)"),
                                 ("lacks", 2, "(part (row 1 2) 2)"), ("wrong", 5, "(size 5)"), ("lacks", "q", "q"),
                                 ("wrong", None, "(less 1 none)"), ("lacks", "q", "(get me 'q')"),
                                 ("wrong", self.thing, "(new me)"), ("wants", "own", "(new (look kind me))")):
            self.breaks(why, found, "give " + text)
        deep_row = "(row (row (row (row (row)))))"
        self.breaks("many", 1, "give " + deep_row)

    def test_frames_are_things_when_they_are_told(self):
        many = len(self.store)
        self.has("try", "deed try () / let f here / do (call me 'add' 1) / give (row f here (same f here))")
        frame = ("thing", many + 1)
        self.assertEqual(called(self.store, self.thing, "try"), row(frame, frame, 1))
        self.assertEqual(len(self.store), many + 2)
        self.asks("gone", frame, frame, "sort")
        self.has("above", "deed above () / give (look above here)")
        self.has("try", "deed try () / let f (call me 'above') / give (row (same f here) (look title f))")
        self.assertEqual(called(self.store, self.thing, "try"), row(1, "try"))
        self.assertEqual(len(self.store), many + 6)

    def test_own_names_are_set_by_asks(self):
        self.assertEqual(self.does("set here 'a' 9 / give (row a (get here 'a'))", 1), row(9, 9))
        self.assertEqual(self.does("let f (look stand here) / set f 'a' 9 / let a (add a 1) / give (get f 'a')", 1), 10)
        self.breaks("lacks", "q", "set here 'q' 9")
        self.assertEqual(self.does("do here / let q 1 / set here 'q' 9 / give q"), 9)


if __name__ == "__main__":
    unittest.main()
