"""Promise 122: one thing in another's place, wherever it is led to, and all that is refused."""

import unittest

from checks import STRANGE_THINGS, row
from deeds import deed
from house import House
from innerlook.errors import NoStore, NoThing
from innerlook.fronts import behind, counted, rules_of, stand
from innerlook.machine import Machine, called
from innerlook.making import exchanged
from innerlook.views import take_back, view_of
from innerlook.wraps import deed_within, inner_of, put_on, remembered, way_of, wraps_on
from test_store import ALL, FRAMES, KINDS, NO_THINGS


class Exchanged(House):

    def faults(self, why, found, one, other):
        self.fault(why, found, self.keeps, self.store, exchanged, self.store, one, other)

    def test_own_rows_of_all_things_the_two_too(self):
        one, other = self.thing, self.store.plain(self.sub, rows={"own": 5})
        self.store.put(one, "b", row(one, row(other, one)))
        self.store.put(other, "b", one)
        self.store.put(self.box, "top", one)
        third = self.store.plain(ALL, rows={"a": other, "c": 1})
        fourth = self.store.plain(ALL, rows={"a": row(one, one), "c": one})
        self.assertEqual(exchanged(self.store, one, other), 4)
        self.assertEqual(self.store.rows(one), {"own": 1, "b": row(other, row(other, other)), "open": self.open})
        self.assertEqual(self.store.rows(other), {"own": 5, "b": other})
        self.assertEqual(self.store.rows(self.box)["top"], other)
        self.assertEqual(self.store.rows(third), {"a": other, "c": 1})
        self.assertEqual(self.store.rows(fourth), {"a": row(other, other), "c": other})
        self.assertEqual(exchanged(self.store, one, other), 0)
        self.assertEqual(exchanged(other=one, one=other, store=self.store), 5)

    def test_kinds_as_kinds_and_as_above(self):
        new = self.store.kind("new", above=self.box)
        below = self.store.kind("below", above=self.sub)
        self.assertEqual(exchanged(self.store, self.sub, new), 2)
        self.assertEqual(self.store.kind_of(self.thing), new)
        self.assertEqual(self.store.above(below), new)
        self.assertEqual((self.store.title_of(self.sub), self.store.above(self.sub)), ("sub", self.box))
        self.assertEqual(self.store.rows(self.thing)["own"], 1)

    def test_behind_fronts_and_rules_stay(self):
        other = self.store.plain(ALL)
        front = self.stand(("give", "x", self.thing), ("count", "q"))
        part = self.view("own", asks=("get",))
        over = self.view(thing=front)
        self.ask(front, "has", "q")
        take_back(self.store, part)
        self.assertEqual(exchanged(self.store, self.thing, other), 2)
        self.assertEqual((behind(self.store, front), behind(self.store, over)), (other, front))
        self.assertEqual(rules_of(self.store, front), (("give", "x", self.thing), ("count", "q")))
        self.assertEqual(counted(self.store, front), {"q": 1})
        self.assertEqual(view_of(self.store, part), (other, ("own",), ("get",), True))

    def test_inner_ones_and_deeds_of_wraps(self):
        like = self.store.deed(deed("deed like (n *by=1) / give 7"))
        over = put_on(self.store, self.sub, "wrapped", ("before", self.add))
        kept = put_on(self.store, self.sub, "add", ("kept",))
        called(self.store, self.thing, "add", args=[1])
        self.assertEqual(exchanged(self.store, self.add, like), 3)
        self.assertEqual((inner_of(self.store, self.wrap), inner_of(self.store, kept)), (like, like))
        self.assertEqual(way_of(self.store, over), ("before", like))
        self.assertEqual(deed_within(self.store, self.sub, "add"), like)
        self.assertEqual(remembered(self.store, kept), [(self.thing, (1,), {}, 2)])
        self.assertEqual(called(self.store, self.thing, "add", args=[2]), 7)
        self.assertEqual(called(self.store, self.thing, "add", args=[1]), 2)

    def test_what_wraps_remember_stays(self):
        other = self.store.plain(self.sub, rows={"own": 3})
        self.has("f", "deed f (x) / give x")
        kept = put_on(self.store, self.sub, "f", ("kept",))
        called(self.store, self.thing, "f", args=[self.thing])
        before = remembered(self.store, kept)
        exchanged(self.store, self.thing, other)
        self.assertEqual(remembered(self.store, kept), before)

    def test_deeds_and_wraps_in_each_others_place(self):
        other = self.store.deed(deed("deed o () / give 1"))
        self.assertEqual(exchanged(self.store, self.wrap, other), 1)
        self.assertEqual(self.store.rows(self.sub)["wrapped"], other)
        self.assertEqual(exchanged(self.store, other, self.wrap), 1)
        self.assertEqual(wraps_on(self.store, self.sub, "wrapped"), [self.wrap])
        self.store.put(self.thing, "q", other)
        over = put_on(self.store, self.thing, "q", ("kept",))
        self.assertEqual(exchanged(self.store, other, self.wrap), 1)
        self.assertEqual(wraps_on(self.store, self.thing, "q"), [over, self.wrap])

    def test_frames_stay(self):
        machine, outer, inner = self.two_frames()
        other = self.store.plain(self.sub, rows={"own": 5})
        machine.set_worth(inner, "z", self.thing)
        self.store.put(other, "f", inner)
        exchanged(self.store, self.thing, other)
        self.assertEqual((machine.me(inner), self.ask(inner, "within"), self.ask(inner, "get", "z")),
                         (self.thing, self.thing, self.thing))
        self.assertEqual(self.store.rows(other)["f"], inner)

    def test_a_thing_in_its_own_place(self):
        for thing in (self.thing, self.sub, self.add, self.wrap):
            self.assertEqual(self.keeps(self.store, exchanged, self.store, thing, thing), 0)
        put_on(self.store, self.sub, "wrapped", ("before", self.add))
        self.assertEqual(exchanged(self.store, self.add, self.add), 0)

    def test_refused_things(self):
        for thing in STRANGE_THINGS + (None, 5):
            self.refused(NoStore, thing, exchanged, thing, 5, 5)
        for thing in NO_THINGS:
            if not self.store.has_thing(thing):
                self.refused(NoThing, thing, exchanged, self.store, thing, 5)
                self.refused(NoThing, thing, exchanged, self.store, self.thing, thing)

    def test_sorts_that_do_not_go_together(self):
        frame = self.two_frames()[1]
        sorts = (self.thing, self.sub, self.add, self.stand(), self.view(), frame, ALL)
        for one in sorts:
            for other in sorts:
                if one != other and {one, other} != {self.sub, ALL}:
                    self.faults("wrong", other, one, other)
        for thing in (self.stand(), self.view(), frame):
            self.faults("wrong", thing, thing, thing)
        self.faults("wrong", self.thing, self.wrap, self.thing)
        self.faults("wrong", self.wrap, self.sub, self.wrap)

    def test_barred(self):
        for first in (ALL, KINDS, FRAMES):
            self.faults("barred", first, first, self.sub)
            self.faults("barred", first, self.sub, first)
            self.faults("barred", first, first, first)
        self.faults("barred", ALL, ALL, KINDS)

    def test_what_would_rest_on_itself(self):
        low = self.store.kind("low", above=self.sub)
        self.faults("wrong", self.sub, self.box, self.sub)
        self.faults("wrong", low, self.box, low)
        self.faults("wrong", low, self.sub, low)
        self.assertEqual(exchanged(self.store, low, self.sub), 0)
        over = put_on(self.store, self.sub, "wrapped", ("kept",))
        self.faults("wrong", self.wrap, self.add, self.wrap)
        self.faults("wrong", over, self.add, over)
        self.faults("wrong", over, self.wrap, over)
        self.assertEqual(exchanged(self.store, over, self.wrap), 1)

    def test_wraps_are_no_deeds_of_ways(self):
        like = self.store.deed(deed("deed like (n *by=1) / give 7"))
        for word in ("before", "around", "behind"):
            self.setUp()
            like = self.store.deed(deed("deed like (n *by=1) / give 7"))
            put_on(self.store, self.sub, "add", (word, like))
            self.faults("wrong", self.wrap, like, self.wrap)
            self.assertEqual(exchanged(self.store, like, self.open), 1)

    def test_what_things_lack_then(self):
        new = self.store.kind("new", wants=("own", "q", "b"))
        self.faults("wants", "q", self.sub, new)
        self.faults("wants", "q", self.box, new)
        self.store.put(self.thing, "q", 1)
        self.store.plain(self.sub, rows={"own": 5, "q": 1})
        self.faults("wants", "b", self.sub, new)
        self.store.put(("thing", len(self.store) - 1), "b", 1)
        self.assertEqual(exchanged(self.store, self.sub, new), 2)

    def test_the_first_thing_and_its_first_name(self):
        new = self.store.kind("new", wants=("x", "y"))
        mid = self.store.kind("mid", above=new, wants=("z",))
        for rows, found in (({"own": 1, "x": 1}, "z"), ({"own": 1, "z": 1, "x": 1}, "y"), ({"own": 1, "z": 1}, "x")):
            thing = self.store.plain(self.sub, rows=rows)
            twin = self.store.twin()
            for number in (thing, self.thing):
                if number != thing:
                    twin.turn(self.thing, ALL)
            self.fault("wants", found, self.keeps, twin, exchanged, twin, self.sub, mid)
            self.store.turn(thing, ALL)

    def test_a_running_machine_is_led_to_the_other_from_then_on(self):
        machine, outer, inner = self.two_frames()
        other = self.store.deed(deed("deed o (z) / give 3"))
        exchanged(self.store, self.store.met(self.thing, "inner")[1], other)
        self.assertEqual(machine.run(), 9)
        self.assertEqual(called(self.store, self.thing, "open", args=[1]), 3)
        self.assertEqual(Machine(self.store, stand(self.store, self.thing), "open", args=[1]).run(), 3)


if __name__ == "__main__":
    unittest.main()
