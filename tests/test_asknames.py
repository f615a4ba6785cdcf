"""Promises 92, 94 and 95: asks by names, of things, through fronts and of frames, and what they count."""

import random
import unittest

from checks import names, row
from house import House
from innerlook.asks import ask, deed_met
from innerlook.fronts import counted, led, shown, stand
from innerlook.machine import called
from innerlook.plain import run_plain
from innerlook.views import take_back, view
from innerlook.wraps import put_on, remembered
from test_fronts import rules_by_chance
from test_store import ALL


class Things(House):

    def test_of_a_thing_itself(self):
        for name, worth, whose in (("own", 1, self.thing), ("b", None, self.thing), ("mid", "of sub", self.sub),
                                   ("top", "of box", self.box), ("add", self.add, self.sub)):
            self.assertEqual(self.ask(self.thing, "has", name), 1)
            self.assertEqual(self.ask(self.thing, "get", name), worth)
            self.assertEqual(self.ask(self.thing, "owner", name), whose)
        self.assertEqual(self.ask(self.box, "owner", "mid"), self.box)
        self.assertEqual(self.ask(self.sub, "owner", "top"), self.box)
        for thing in (self.thing, self.sub, self.add, self.wrap, ALL):
            self.assertEqual(self.ask(thing, "has", "q"), 0)
            self.asks("lacks", "q", thing, "get", "q")
            self.asks("lacks", "q", thing, "owner", "q")

    def test_set_and_drop(self):
        self.assertIsNone(self.ask(self.thing, "set", "b", row(self.add)))
        self.assertIsNone(self.ask(self.thing, "set", "new", 2))
        self.assertEqual(list(self.store.rows(self.thing).items()),
                         [("own", 1), ("b", row(self.add)), ("open", self.open), ("new", 2)])
        self.assertIsNone(self.ask(self.thing, "drop", "b"))
        self.assertEqual(list(self.store.rows(self.thing)), ["own", "open", "new"])
        self.asks("lacks", "mid", self.thing, "drop", "mid")
        self.asks("wants", "own", self.thing, "drop", "own")
        for word, more in (("set", (1,)), ("drop", ())):
            self.asks("barred", ALL, ALL, word, "own", *more)
            self.asks("barred", ALL, self.stand(thing=ALL), word, "own", *more)
            for thing in (self.add, self.wrap):
                self.asks("wrong", thing, thing, word, "own", *more)
                self.asks("wrong", thing, self.view(thing=self.stand(thing=thing)), word, "own", *more)

    def test_through_rules(self):
        front = self.stand(("hide", "own"), ("bar", "b"), ("as", "one", "mid"), ("as", "two", "gone"), ("give", "x", 5))
        for name, worth, whose in (("one", "of sub", self.sub), ("x", 5, front), ("top", "of box", self.box)):
            self.assertEqual(self.ask(front, "has", name), 1)
            self.assertEqual(self.ask(front, "get", name), worth)
            self.assertEqual(self.ask(front, "owner", name), whose)
        for name in ("own", "mid", "two", "gone", "q"):
            self.assertEqual(self.ask(front, "has", name), 0)
            self.asks("lacks", name, front, "get", name)
            self.asks("lacks", name, front, "owner", name)
        for word in ("has", "get", "owner", "drop"):
            self.asks("barred", "b", front, word, "b")
        self.asks("barred", "b", front, "set", "b", 1)
        renames = self.stand(("as", "other", "b"), thing=front)
        for word in ("has", "get", "owner", "drop"):
            self.asks("barred", "b", renames, word, "other")

    def test_owner_of_what_the_base_has_is_the_asked_front(self):
        front = self.view(thing=self.stand(("as", "q", "own"), ("give", "z", 1)))
        self.assertEqual(self.ask(front, "owner", "q"), front)
        self.assertEqual(self.ask(front, "owner", "z"), front)
        self.assertEqual(self.ask(front, "owner", "mid"), self.sub)

    def test_set_and_drop_through_rules(self):
        front = self.stand(("hide", "own"), ("as", "q", "b"), ("as", "new", "fresh"), ("give", "x", 5), ("as", "r", "own"))
        top = self.stand(("as", "xx", "x"), ("as", "oo", "own"), thing=front)
        self.ask(front, "set", "q", 7)
        self.ask(front, "set", "new", 8)
        self.assertEqual(self.store.rows(self.thing), {"own": 1, "b": 7, "open": self.open, "fresh": 8})
        for word, more in (("set", (1,)), ("drop", ())):
            self.asks("lacks", "own", front, word, "own", *more)
            self.asks("lacks", "oo", top, word, "oo", *more)
            self.asks("lacks", "fresh", front, word, "fresh", *more)
            self.asks("barred", "x", front, word, "x", *more)
            self.asks("barred", "xx", top, word, "xx", *more)
        self.asks("wants", "own", front, "drop", "r")
        self.asks("lacks", "mid", front, "drop", "mid")
        self.ask(front, "drop", "new")
        self.asks("lacks", "fresh", front, "drop", "new")

    def test_through_views(self):
        part = self.view("own", "mid")
        self.assertEqual(self.ask(part, "get", "own"), 1)
        self.assertEqual(self.ask(part, "has", "mid"), 1)
        self.assertEqual(self.ask(part, "names"), row("own", "mid"))
        for word, more in (("has", ()), ("get", ()), ("owner", ()), ("drop", ()), ("set", (1,))):
            self.asks("barred", "b", part, word, "b", *more)
            self.asks("barred", "q", self.stand(("as", "own", "q"), thing=part), word, "own", *more)

    def test_names(self):
        self.assertEqual(self.ask(self.thing, "names"), row(*self.store.names(self.thing)))
        front = self.stand(("as", "q", "own"), ("give", "z", 1), ("hide", "b"))
        for thing in (self.thing, front, self.sub, self.add, self.wrap, self.view(thing=front)):
            self.assertEqual(self.ask(thing, "names"), row(*shown(self.store, thing)))
        big = self.store.plain(ALL, rows={name: 1 for name in names(30)})
        self.assertEqual(self.ask(big, "names"), row(*names(30)))
        self.ask(big, "set", "more", 1)
        self.asks("many", 31, big, "names")
        self.assertEqual(len(self.ask(self.stand(("hide", "more"), thing=big), "names")[1]), 30)

    def test_all_names_by_chance_as_led_and_shown_tell(self):
        numbers = random.Random(7)
        for _ in range(300):
            front = self.thing
            for _ in range(numbers.randrange(1, 4)):
                if numbers.random() < 0.3:
                    front = view(self.store, front, names=tuple(numbers.sample(("own", "b", "mid", "a", "c", "d"), 4)))
                else:
                    front = stand(self.store, front, rules_by_chance(numbers, ("own", "b", "mid", "a", "c")))
            self.assertEqual(self.ask(front, "names"), row(*shown(self.store, front)))
            for name in ("own", "b", "mid", "a", "c", "d"):
                self.holds_by_led(front, name, led(self.store, front, name))
            if len(self.store) > 190:
                self.setUp()

    def holds_by_led(self, front, name, found):
        if found[0] == "barred":
            for word in ("has", "get", "owner"):
                self.asks("barred", found[1], front, word, name)
            return
        is_there = found[0] in ("met", "given")
        self.assertEqual(self.ask(front, "has", name), 1 if is_there else 0)
        self.assertEqual(name in self.ask(front, "names")[1], is_there)
        if is_there:
            self.assertEqual(self.ask(front, "get", name), found[-1])
            self.assertEqual(self.ask(front, "owner", name), self.sub if found[-1] == "of sub" else front)
        else:
            self.asks("lacks", name, front, "get", name)


class Calls(House):

    def test_deed_met(self):
        self.assertEqual(deed_met(self.store, self.thing, "add"), self.add)
        self.assertEqual(deed_met(self.store, self.thing, "wrapped"), self.wrap)
        self.assertEqual(deed_met(self.store, self.stand(("as", "q", "add")), "q"), self.add)
        self.assertEqual(deed_met(self.store, self.stand(("give", "q", self.wrap)), "q"), self.wrap)
        for thing in (self.add, self.wrap):
            self.store.put(self.thing, "f", self.view("q", thing=self.stand(("hide", "f"), thing=thing)))
            self.assertEqual(deed_met(self.store, self.thing, "f"), thing)

    def calls(self, why, found, thing, name):
        """A call, and what tells the deed that it runs, come to this Fault."""
        self.fault(why, found, self.keeps, self.store, deed_met, self.store, thing, name)
        self.fault(why, found, self.keeps, self.store, called, self.store, thing, name)
        self.has("try", "deed try (x) / give (call x '" + name + "')")
        self.fault(why, found, self.keeps, self.store, called, self.store, self.thing, "try", args=[thing])

    def test_what_can_not_be_called(self):
        self.calls("lacks", "q", self.thing, "q")
        self.calls("lacks", "f", self.stand(("as", "f", "q")), "f")
        self.calls("barred", "b", self.stand(("bar", "b"), ("as", "f", "b"), thing=self.stand(("bar", "b"))), "f")
        self.calls("lacks", "own", self.stand(("hide", "own")), "own")
        for name, worth in (("own", 1), ("b", None), ("mid", "of sub")):
            self.calls("wrong", worth, self.thing, name)
        for worth in (self.thing, self.sub, self.stand(), row(self.add), self.view(thing=self.sub)):
            self.store.put(self.thing, "f", worth)
            self.calls("wrong", worth, self.thing, "f")

    def test_the_fronts_of_the_thing_and_of_the_deed(self):
        self.calls("barred", "call", self.view(thing=self.stand(thing=self.view(asks=("get", "has")))), "add")
        self.assertEqual(called(self.store, self.view(asks=("call",)), "add", args=[1]), 2)
        gone = self.view()
        take_back(self.store, gone)
        front = self.stand(thing=gone)
        self.calls("gone", front, front, "add")
        shut = self.stand(thing=self.view(thing=self.add, asks=("text", "get")))
        self.store.put(self.thing, "f", shut)
        self.calls("barred", "call", self.thing, "f")
        lets = self.stand(thing=self.view(thing=self.add, asks=("call",)))
        self.store.put(self.thing, "f", lets)
        self.assertEqual(called(self.store, self.thing, "f", args=[1]), 2)
        deed_gone = self.view(thing=self.thing)
        take_back(self.store, deed_gone)
        self.store.put(self.thing, "f", self.stand(thing=deed_gone))
        self.calls("gone", ("thing", deed_gone[1] + 1), self.thing, "f")

    def test_an_ended_frame_in_the_place_of_a_deed(self):
        frame = self.two_frames()[2]
        self.store.put(self.thing, "f", frame)
        self.store.put(self.thing, "g", self.stand(thing=frame))
        self.fault("wrong", frame, deed_met, self.store, self.thing, "f")
        frame = self.does("give here")
        self.store.put(self.thing, "f", frame)
        self.calls("gone", frame, self.thing, "f")
        front = self.stand(thing=self.view(thing=frame, asks=()))
        self.store.put(self.thing, "f", front)
        self.calls("gone", front, self.thing, "f")

    def test_me_is_the_thing_that_was_asked(self):
        self.has("who", "deed who () / give me")
        front = self.stand(("as", "q", "who"), thing=self.view())
        self.assertEqual(called(self.store, front, "q"), front)
        self.store.put(self.thing, "who", self.stand(thing=self.ask(self.sub, "get", "who")))
        self.assertEqual(called(self.store, front, "q"), front)


class Frames(House):

    def test_names_and_worths(self):
        machine, outer, inner = self.two_frames()
        self.assertEqual(machine.names(inner), {"w": 5, "z": 4})
        for frame, told in ((outer, {"x": 4}), (inner, {"w": 5, "z": 4})):
            for thing in (frame, self.stand(thing=frame), self.view(*told, thing=self.stand(thing=frame))):
                self.assertEqual(self.ask(thing, "names"), row(*told))
                for name, worth in told.items():
                    self.assertEqual(self.ask(thing, "has", name), 1)
                    self.assertEqual(self.ask(thing, "get", name), worth)
                    self.assertEqual(self.ask(thing, "owner", name), thing)
        for frame in (outer, self.stand(thing=outer)):
            self.assertEqual(self.ask(frame, "has", "w"), 0)
            self.asks("lacks", "w", frame, "get", "w")
            self.asks("lacks", "w", frame, "owner", "w")

    def test_set_and_drop(self):
        machine, outer, inner = self.two_frames()
        front = self.stand(("as", "q", "z"), ("hide", "z"), ("give", "g", 1), ("as", "r", "y"), thing=inner)
        self.assertIsNone(self.ask(inner, "set", "w", row(inner)))
        self.assertIsNone(self.ask(front, "set", "q", 40))
        self.assertEqual(machine.names(inner), {"w": row(inner), "z": 40})
        self.asks("lacks", "y", inner, "set", "y", 1)
        self.asks("lacks", "r", front, "set", "r", 1)
        self.asks("lacks", "z", front, "set", "z", 1)
        self.asks("barred", "g", front, "set", "g", 1)
        self.asks("barred", "z", inner, "drop", "z")
        self.asks("barred", "y", inner, "drop", "y")
        self.asks("barred", "q", front, "drop", "q")
        self.asks("barred", "g", front, "drop", "g")
        self.asks("lacks", "z", front, "drop", "z")
        self.asks("barred", "w", self.view("z", thing=inner), "get", "w")
        self.asks("barred", "w", self.stand(("as", "z", "w"), thing=self.view("z", thing=inner)), "set", "z", 1)
        machine.set_worth(inner, "w", 5)
        self.assertEqual(machine.run(), 45)

    def test_names_through_fronts(self):
        machine, outer, inner = self.two_frames()
        front = self.stand(("as", "q", "z"), ("as", "r", "no"), ("give", "g", 1), thing=inner)
        self.assertEqual(self.ask(front, "names"), row("w", "q", "g"))
        self.assertEqual(self.ask(self.view("q", "z", thing=front), "names"), row("q"))
        self.assertEqual(shown(self.store, inner), [])
        self.has("wide", "deed wide () / " + " / ".join(
            "if 1 / " + " / ".join("let " + name + " 1" for name in some) + " / end"
            for some in (names(31)[:10], names(31)[10:20], names(31)[20:31])) + " / give (look names here)")
        self.fault("many", 31, called, self.store, self.thing, "wide")

    def test_all_else(self):
        machine, outer, inner = self.two_frames()
        for frame in (inner, self.stand(thing=inner)):
            for word in ("copy", "deep", "text", "made"):
                self.asks("wrong", frame, frame, word, *(["a"] if word == "made" else []))
            self.asks("wrong", frame, frame, "new", {})
            self.assertEqual(self.ask(frame, "alike", frame), 1)
            self.assertEqual(self.ask(frame, "alike", outer), 0)
        self.assertEqual(self.ask(inner, "within"), self.thing)
        self.assertEqual(self.ask(inner, "sort"), "frame")

    def test_calls_of_names_of_frames(self):
        self.has("fun", "deed fun (f) / do 1 / give (call here 'f' 3)")
        self.assertEqual(called(self.store, self.thing, "fun", args=[self.add]), 4)
        self.has("who", "deed who () / give (look within me)")
        self.assertEqual(self.does("let f (get me 'who') / give (call here 'f')"), self.thing)

    def test_behind_the_end_every_ask_is_gone(self):
        machine, outer, inner = self.two_frames()
        fronts = [self.stand(thing=inner), self.view(thing=inner, asks=())]
        self.assertEqual(self.ask(fronts[0], "get", "z"), 4)
        machine.step()
        machine.step()
        for thing in [inner] + fronts:
            self.asks("gone", thing, thing, "names")
            for word, more in (("has", ("z",)), ("get", ("z",)), ("set", ("z", 1)), ("drop", ("z",)), ("owner", ("z",)),
                               ("kind", ()), ("turn", (self.sub,)), ("under", (ALL,)), ("title", ()), ("above", ()),
                               ("params", ()), ("copy", ()), ("deep", ()), ("sort", ()), ("within", ()),
                               ("alike", (1,)), ("made", ("a",)), ("stand", ()), ("narrow", (row(),)), ("new", ({},)),
                               ("text", ())):
                self.asks("gone", thing, thing, word, *more)
            self.asks("wrong", 5, thing, "get", 5)
            self.asks("wrong", 5, thing, "turn", 5)
            self.fault("gone", thing, deed_met, self.store, thing, "z")
        self.assertEqual(self.ask(outer, "get", "x"), 4)
        self.assertEqual(self.store.sort_of(inner), "frame")
        machine.run()
        self.asks("gone", outer, outer, "names")


class Counting(House):

    def counts(self, *fronts):
        return [counted(self.store, front) for front in fronts]

    def test_asks_by_names_count(self):
        front = self.stand(("count", "own"), ("count", "q"))
        for word, more in (("has", ()), ("get", ()), ("owner", ()), ("set", (3,))):
            self.ask(front, word, "own", *more)
        self.assertEqual(self.counts(front), [{"own": 4, "q": 0}])
        self.ask(front, "has", "q")
        self.ask(front, "set", "q", 1)
        self.ask(front, "drop", "q")
        self.assertEqual(self.counts(front), [{"own": 4, "q": 3}])
        for word, more in (("names", ()), ("kind", ()), ("copy", ()), ("stand", ()), ("narrow", (row("own"),)),
                           ("alike", (1,)), ("sort", ())):
            self.ask(front, word, *more)
        self.ask(self.stand(("count", "own"), thing=self.sub), "made", "own")
        self.assertEqual(self.counts(front), [{"own": 4, "q": 3}])

    def test_each_front_counts_the_name_as_it_is_asked_there(self):
        back = self.stand(("count", "own"), ("count", "b"), ("count", "x"))
        mid = self.stand(("as", "b", "own"), ("hide", "x"), ("count", "b"), ("count", "x"), thing=self.view(thing=back))
        self.ask(mid, "get", "b")
        self.ask(mid, "has", "x")
        self.ask(back, "get", "b")
        self.assertEqual(self.counts(back, mid), [{"own": 1, "b": 1, "x": 0}, {"b": 1, "x": 1}])

    def test_what_is_told_from_outside_counts_nothing(self):
        front = self.stand(("count", "own"), ("count", "add"))
        led(self.store, front, "own")
        shown(self.store, front)
        self.assertEqual(deed_met(self.store, front, "add"), self.add)
        self.assertEqual(self.counts(front), [{"own": 0, "add": 0}])

    def test_calls_of_machines_and_programs_count(self):
        front = self.stand(("count", "own"), ("count", "add"))
        called(self.store, front, "add", args=[1])
        self.assertEqual(self.counts(front), [{"own": 0, "add": 1}])
        self.does("give (add (call a 'add' 1) (get a 'own'))", front)
        self.assertEqual(self.counts(front), [{"own": 1, "add": 2}])
        self.does("set a 'own' 4 / do (look has a 'own')", front)
        self.assertEqual(self.counts(front), [{"own": 3, "add": 2}])

    def test_a_fault_leaves_counts_as_they_were(self):
        front = self.stand(("count", "own"), ("count", "gone"))
        self.breaks("lacks", "gone", "do (get a 'own') / do (get a 'gone')", front)
        self.assertEqual(self.counts(front), [{"own": 0, "gone": 0}])


class Plain(House):

    def test_asks_of_plain_programs_are_as_the_plain_runner_tells(self):
        self.has("try", "deed try (x) / set me 'n' (add x 1) / give (row (get me 'n') (call me 'add' x) (get me 'top'))")
        twin = self.store.twin()
        self.assertEqual(run_plain(twin, self.thing, "try", args=[4]), called(self.store, self.thing, "try", args=[4]))
        self.assertTrue(twin == self.store)

    def test_wraps_are_called_by_asks_alone(self):
        put_on(self.store, self.sub, "add", ("often", 1))
        self.assertEqual(called(self.store, self.thing, "add", args=[1]), 2)
        self.assertIsNone(called(self.store, self.thing, "add", args=[1]))
        self.assertEqual(remembered(self.store, self.store.rows(self.sub)["add"]), 0)
        self.fault("wrong", self.store.rows(self.sub)["add"], run_plain, self.store, self.thing, "add", args=[1])
        self.assertEqual(ask(self.store, self.thing, "get", ["add"]), self.store.rows(self.sub)["add"])


if __name__ == "__main__":
    unittest.main()
