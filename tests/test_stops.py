"""Promise 114, and 42, 45 and 113 for frames: Machines against the plain runner, and frames as things of a Store."""

import random
import unittest

from checks import row
from deeds import deed
from house import House
from innerlook.asks import ask
from innerlook.errors import Fault
from innerlook.machine import Machine, called
from innerlook.plain import rows_plain, run_plain
from innerlook.store import Store
from innerlook.trees import is_deed
from innerlook.wraps import put_on
from programs import Programs


def run_of(store, thing, name, args, named):
    """The rows of all stops of a Machine, as the plain runner tells them, and its end."""
    rows = []
    try:
        machine = Machine(store, thing, name, args=args, named=named)
        while not machine.is_done():
            told = machine.frames_told()
            rows.append((len(told), told[-1][0], told[-1][1], list(told[-1][2].items())))
            assert machine.counted() == len(rows) - 1
            machine.step()
        return rows, ("told", machine.worth())
    except Fault as fault:
        return rows, (fault.why, fault.found)


def plain_end(store, thing, name, args, named):
    try:
        return "told", run_plain(store, thing, name, args=args, named=named)
    except Fault as fault:
        return fault.why, fault.found


class AgainstThePlainRunner(unittest.TestCase):

    def test_programs_without_looks(self):
        ends, lengths = {}, []
        for seed in range(400):
            programs = Programs(seed)
            store, twin = programs.store, programs.store.twin()
            thing = programs.things[0]
            for args, named in (([1], {}), ([2, 3], {"t": programs.things[1], "x": 2})):
                rows = rows_plain(store, thing, "f", args=args, named=named)
                end = plain_end(store, thing, "f", args, named)
                self.assertEqual(run_of(twin, thing, "f", args, named), (rows, end), seed)
                self.assertTrue(store == twin, seed)
                ends[end[0]] = ends.get(end[0], 0) + 1
                lengths.append(len(rows))
        # The programs go on for a while, and end in many ways.
        self.assertGreater(ends["told"], 100)
        self.assertGreater(sum(lengths), 5000)
        self.assertTrue({"told", "lacks", "long"} <= set(ends), ends)

    def test_a_worth_set_at_a_stop_goes_on_as_if_a_let_had_stood_there(self):
        held = 0
        for seed in range(300):
            programs = Programs(seed)
            store, thing = programs.store, programs.things[0]
            rows = rows_plain(store, thing, "f", args=[1])
            tops = [at for at, told in enumerate(rows) if told[0] == 1 and len(told[2]) == 1]
            for at in tops[1:]:
                number = rows[at][2][0]
                name = rows[at][3][seed % len(rows[at][3])][0]
                held += self.holds(store, thing, at, number, name)
        self.assertGreater(held, 200)

    def holds(self, store, thing, at, number, name):
        """A number set at the stop, against a deed with a `let` there; 1 where the stop comes just once."""
        title, params, block = store.deed_of(store.met(thing, "f")[1])
        changed = (title, params, block[:number] + (("let", name, ("lit", 4)),) + block[number:])
        if not is_deed(changed) or block[number][0] == "while":
            return 0
        one, other = store.twin(), store.twin()
        other.put(other.kind_of(thing), "f", other.deed(changed))
        machine = Machine(one, thing, "f", args=[1])
        try:
            for _ in range(at):
                machine.step()
            # The frame is a thing now; told ahead of the deed, it would shift what is new.
            frame = machine.frames()[0]
            machine.set_worth(frame, name, 4)
            end = ("told", machine.run())
        except Fault as fault:
            end = (fault.why, fault.found)
        self.assertEqual(self.numbers_out(end), self.numbers_out(plain_end(other, thing, "f", [1], {})))
        return 1

    def numbers_out(self, end):
        """An end without the numbers of things that were made on the way."""
        worth = end[1]
        return end[0], worth if not isinstance(worth, tuple) else worth[0]


class FramesAsThings(House):

    def test_equality_and_twins(self):
        machine, outer, inner = self.two_frames()
        twin = self.store.twin()
        self.assertTrue(twin == self.store)
        machine.set_worth(inner, "z", 50)
        self.assertFalse(twin == self.store)
        self.assertEqual(ask(twin, inner, "get", ["z"]), 4)
        ask(twin, inner, "set", ["z", 50])
        self.assertTrue(twin == self.store)
        machine.run()
        self.assertFalse(twin == self.store)
        self.assertEqual(ask(twin, inner, "get", ["z"]), 50)
        self.asks("gone", inner, inner, "names")

    def test_an_ended_frame_is_unlike_one_that_runs(self):
        self.has("try", "deed try () / let f here / do 1")
        machine = Machine(self.store, self.thing, "try")
        machine.step()
        twin = self.store.twin()
        machine.step()
        self.assertIs(machine.is_done(), True)
        self.assertFalse(self.store == twin)
        self.assertEqual(self.store, self.store.twin())

    def test_a_twin_tells_the_caller_as_it_was(self):
        self.has("inner", "deed inner (z) / let f here / let w 5 / give (add z w)")
        machine = Machine(self.store, self.thing, "open", args=[4])
        machine.step()
        machine.step()
        inner = ("thing", len(self.store) - 1)
        self.assertEqual(self.store.sort_of(inner), "frame")
        twin = self.store.twin()
        machine.run()
        self.asks("gone", inner, inner, "above")
        outer = ask(twin, inner, "above")
        self.assertEqual(outer, ("thing", len(twin) - 1))
        self.assertEqual(ask(twin, outer, "names"), row("x"))
        self.assertEqual(ask(twin, inner, "above"), outer)
        self.assertIsNone(ask(twin, outer, "above"))
        other = twin.twin()
        ask(other, outer, "set", ["x", 8])
        self.assertEqual(ask(twin, outer, "get", ["x"]), 4)
        self.assertEqual(ask(other, inner, "above"), outer)

    def test_asks_that_fault_between_stops_leave_the_machine_going_on(self):
        machine, outer, inner = self.two_frames()
        for frame in (outer, inner):
            self.asks("lacks", "q", frame, "get", "q")
            self.asks("barred", "x", frame, "drop", "x")
        self.ask(inner, "set", "z", 8)
        self.assertEqual(machine.names(inner), {"w": 5, "z": 8})
        self.asks("lacks", "q", inner, "set", "q", 1)
        machine.set_worth(inner, "z", 9)
        self.assertEqual(self.ask(inner, "get", "z"), 9)
        self.assertEqual(self.ask(inner, "above"), outer)
        self.assertEqual(machine.frames(), [outer, inner])
        self.assertEqual(machine.run(), 14)
        self.asks("gone", inner, inner, "names")
        self.asks("gone", outer, outer, "names")

    def test_calls_that_ask_frames_between_stops(self):
        self.has("peek", "deed peek (f) / set f 'z' (add (get f 'z') 1) / give (look above f)")
        self.has("break", "deed break (f) / set f 'z' 100 / do (look above f) / do (get f 'q')")
        self.has("inner", "deed inner (z) / let f here / let w 5 / give (add z w)")
        machine = Machine(self.store, self.thing, "open", args=[4])
        machine.step()
        machine.step()
        inner = ("thing", len(self.store) - 1)
        many = len(self.store)
        for _ in range(3):
            self.fault("lacks", "q", self.keeps, self.store, called, self.store, self.thing, "break", args=[inner])
        self.assertEqual(machine.frames_told()[1], ("inner", (1,), {"f": inner, "z": 4}))
        self.assertEqual(len(self.store), many)
        outer = called(self.store, self.thing, "peek", args=[inner])
        self.assertEqual(outer, ("thing", many))
        self.assertEqual(machine.frames(), [outer, inner])
        self.assertEqual(called(self.store, self.stand(), "peek", args=[inner]), outer)
        self.fault("lacks", "q", self.keeps, self.store, called, self.store, self.thing, "break", args=[inner])
        self.assertEqual(machine.names(inner), {"f": inner, "z": 6})
        machine.step()
        machine.set_worth(inner, "w", 1)
        self.assertEqual(machine.run(), 7)

    def test_a_number_that_was_withdrawn_is_no_frame_any_more(self):
        self.has("inner", "deed inner (z) / let f here / let w 5 / give (add z w)")
        self.has("break", "deed break (f) / do (look above f) / do (get f 'q')")
        machine = Machine(self.store, self.thing, "open", args=[4])
        machine.step()
        machine.step()
        inner = ("thing", len(self.store) - 1)
        self.fault("lacks", "q", called, self.store, self.thing, "break", args=[inner])
        other = self.stand(thing=inner)
        self.assertEqual(self.ask(inner, "above"), ("thing", other[1] + 1))
        self.assertEqual(machine.frames(), [("thing", other[1] + 1), inner])
        self.assertEqual(self.store.sort_of(other), "stand")

    def test_two_machines_side_by_side_on_twins(self):
        machine, outer, inner = self.two_frames()
        twin = self.store.twin()
        again = Machine(twin, self.thing, "open", args=[40])
        again.step()
        self.assertNotEqual(again.frames(), machine.frames())
        self.assertEqual(again.run(), 45)
        self.assertEqual(machine.names(inner), {"w": 5, "z": 4})
        self.assertEqual(machine.run(), 9)

    def test_kept_frames_of_a_machine_that_is_made_at_a_stop_of_another(self):
        machine, outer, inner = self.two_frames()
        self.has("tell", "deed tell (f) / give (look names f)")
        second = Machine(self.store, self.thing, "tell", args=[outer])
        second.call_off()
        self.assertEqual(machine.frames(), [outer, inner])
        machine.set_worth(inner, "z", 20)
        self.assertEqual(machine.run(), 25)

    def test_names_are_the_plain_runners_at_each_stop_also_when_frames_are_told(self):
        for seed in range(100):
            programs = Programs(seed)
            thing = programs.things[0]
            rows = [told[:3] + ([name for name, _ in told[3]],)
                    for told in rows_plain(programs.store, thing, "f", args=[1])]
            machine, seen = Machine(programs.store, thing, "f", args=[1]), []
            try:
                while not machine.is_done():
                    frames = machine.frames()
                    seen.append((len(frames), machine.title_of(frames[-1]), machine.place(frames[-1]),
                                 list(machine.names(frames[-1]))))
                    machine.step()
            except Fault as fault:
                if fault.why == "full":
                    continue
            self.assertEqual(seen, rows, seed)


class AskedBetweenStops(unittest.TestCase):
    """A Machine goes on likewise, whatever asks and calls between its stops come to a Fault."""

    LOOKS = ("has", "names", "owner", "under", "params", "title", "copy", "deep", "kind", "stand", "narrow")

    def test_programs_by_chance(self):
        stops = 0
        for seed in range(150):
            plain, store = self.run_of(seed, False)
            asked, other = self.run_of(seed, True)
            self.assertEqual(plain, asked, seed)
            self.assertTrue(store == other, seed)
            stops += len(plain)
        self.assertGreater(stops, 1000)

    def run_of(self, seed, is_asked):
        """All that is told at the stops of a run, in which frames are told and worths are set here and there."""
        programs = Programs(seed, looks=self.LOOKS)
        store, numbers, told = programs.store, random.Random(seed), []
        peek = deed("deed peek (f) / do (look above f) / set f 'a' 77 / give (get f 'q')")
        store.put(programs.kind, "peek", store.deed(peek))
        put_on(store, programs.kind, "g", ("kept",))
        try:
            machine = Machine(store, programs.things[0], "f", args=[1])
            while not machine.is_done():
                frames = machine.frames() if numbers.random() < 0.3 else []
                for frame in frames if is_asked else ():
                    self.ask_all(store, programs.things[0], frame)
                for frame in frames:
                    if numbers.random() < 0.3:
                        self.set_worth(store, machine, frame, is_asked)
                told.append(machine.frames_told())
                machine.step()
            return told + [machine.worth()], store
        except Fault as fault:
            return told + [(fault.why, fault.found)], store

    def ask_all(self, store, thing, frame):
        for word, things in (("get", ["q"]), ("drop", ["a"]), ("set", ["q", 1]), ("copy", [])):
            self.assertRaises(Fault, ask, store, frame, word, things)
        self.assertRaises(Fault, called, store, thing, "peek", args=[frame])

    def set_worth(self, store, machine, frame, is_asked):
        for name in list(machine.names(frame))[:1]:
            if is_asked:
                ask(store, frame, "set", [name, 3])
            else:
                machine.set_worth(frame, name, 3)


class Names(unittest.TestCase):
    """Promise 9: with all names called otherwise, in the same order, all is told likewise."""

    def test_machines_with_other_names(self):
        told = []
        for names in (("own", "go", "x", "y"), ("pp", "gg", "xx", "yy")):
            store = Store()
            own, go, one, other = names
            kind = store.kind("k", wants=(own,))
            thing = store.plain(kind, rows={own: 1})
            text = ("give", ("row", (("name", one), ("get", ("here",), ("lit", other)), ("look", "names", (("here",),)))))
            store.put(kind, go, store.deed((go, (("by", one), ("or", other, 2)), (text,))))
            machine = Machine(store, thing, go, args=[5])
            told.append((machine.frames_told(), machine.run()))
        self.assertEqual(told[0], ([("go", (0,), {"x": 5, "y": 2})], row(5, 2, row("x", "y"))))
        self.assertEqual(told[1], ([("gg", (0,), {"xx": 5, "yy": 2})], row(5, 2, row("xx", "yy"))))


if __name__ == "__main__":
    unittest.main()
