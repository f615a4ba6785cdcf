"""Promises 81 to 83: shown rows, copies, and deep copies with all plain things to which they lead."""

import random
import unittest

from checks import STRANGE_THINGS, Checks, names, row
from innerlook.alike import alike
from innerlook.copies import copied, copied_deep, shown_rows
from innerlook.errors import NoStore, NoThing
from innerlook.fronts import counted, stand
from innerlook.store import Store
from innerlook.views import take_back, view
from test_fronts import Built
from test_store import ALL, DEEDS, FRAMES, KINDS, NO_THINGS


class Copies(Built):

    def shows(self, thing, *rows):
        """The shown rows of a thing, in their order."""
        self.assertEqual(list(self.keeps(self.store, shown_rows, self.store, thing).items()), list(rows))

    def copies(self, thing, *rows):
        """The copy of a thing, which has these rows in their order."""
        many, before = len(self.store), self.store.twin()
        made = copied(self.store, thing)
        self.assertEqual(made, ("thing", many))
        self.assertEqual(len(self.store), many + 1)
        self.assertEqual(list(self.store.rows(made).items()), list(rows))
        for number in range(many):
            self.assertEqual(self.store.record(("thing", number)).told(), before.record(("thing", number)).told())
        return made


class ShownRows(Copies):

    def test_own_rows_alone(self):
        self.shows(self.thing, ("own", 1), ("b", 2), ("c", 3))
        self.shows(self.kind, ("c", "kind c"), ("top", "kind top"))
        self.shows(ALL)
        self.shows(self.bare, ("own", 1), ("b", 2), ("c", 3))

    def test_through_rules(self):
        self.shows(self.stand(("hide", "b"), ("as", "x", "c"), ("give", "y", None)), ("own", 1), ("x", 3), ("y", None))
        self.shows(self.stand(("give", "top", 1), ("give", "a", 2), ("give", "b", 3)),
                   ("own", 1), ("b", 3), ("c", 3), ("top", 1), ("a", 2))
        self.shows(self.stand(("as", "x", "top")), ("own", 1), ("b", 2), ("c", 3))
        self.shows(self.stand(("as", "x", "b"), ("as", "y", "b"), ("bar", "own")), ("x", 2), ("y", 2), ("c", 3))
        self.shows(self.stand(("as", "top", "own")), ("top", 1), ("b", 2), ("c", 3))

    def test_through_views(self):
        self.shows(self.part, ("b", 2), ("c", 3))
        self.shows(view(self.store, self.stand(("give", "x", 1)), names=("x", "own", "top")), ("own", 1), ("x", 1))
        self.shows(view(self.store, self.kind, names=("top",)), ("top", "kind top"))

    def test_a_name_of_a_kind_s_own_row_and_of_one_above(self):
        low = self.store.kind("low", above=self.kind, rows={"own": 1})
        self.shows(low, ("own", 1))
        self.shows(stand(self.store, low, (("as", "x", "top"), ("as", "y", "own"))), ("y", 1))

    def test_what_is_told_is_new_each_time(self):
        shown_rows(self.store, self.thing)["own"] = 9
        self.shows(self.thing, ("own", 1), ("b", 2), ("c", 3))

    def test_refused_in_their_order(self):
        for call in (shown_rows, copied, copied_deep):
            for thing in STRANGE_THINGS + (None, 5):
                self.refused(NoStore, thing, call, thing, None)
            for thing in NO_THINGS:
                if thing != ("thing", 4):
                    self.refused(NoThing, thing, self.keeps, self.store, call, self.store, thing)
            for base in (self.deed, self.wrap, self.frame):
                for thing in (base, stand(self.store, base, (("give", "a", 1),)), view(self.store, base)):
                    self.fault_of_very("wrong", thing, self.keeps, self.store, call, self.store, thing)
                taken = view(self.store, base)
                outer = stand(self.store, taken)
                take_back(self.store, taken)
                for thing in (taken, outer):
                    self.fault_of_very("gone", thing, self.keeps, self.store, call, self.store, thing)
        self.assertEqual(shown_rows(thing=ALL, store=self.store), {})

    def test_gone(self):
        over = stand(self.store, self.part)
        take_back(self.store, self.part)
        for call in (shown_rows, copied, copied_deep):
            for thing in (self.part, over):
                self.fault_of_very("gone", thing, self.keeps, self.store, call, self.store, thing)


class Copied(Copies):

    def test_copies_of_plain_things(self):
        rows = (("own", 1), ("b", 2), ("c", 3))
        for thing in (self.thing, self.bare):
            made = self.copies(thing, *rows)
            self.assertEqual((self.store.sort_of(made), self.store.kind_of(made)), ("plain", self.kind))
        made = self.copies(self.stand(("as", "x", "c"), ("give", "y", self.thing)), *rows[:2], ("x", 3), ("y", self.thing))
        self.store.put(made, "own", 7)
        self.assertEqual(self.store.rows(self.thing)["own"], 1)
        self.assertEqual(self.store.rows(copied(thing=self.thing, store=self.store)), dict(rows))

    def test_copies_of_kinds(self):
        low = self.store.kind("low", above=self.kind, wants=("b", "a"), shares=["c"], rows={"x": 1, "a": self.thing})
        made = self.copies(low, ("x", 1), ("a", self.thing))
        told = [(self.store.title_of(one), self.store.above(one), self.store.wants(one), self.store.shares(one))
                for one in (low, made)]
        self.assertEqual(told, [("low", self.kind, ("b", "a"), ("c",))] * 2)
        made = self.copies(stand(self.store, low, (("hide", "x"), ("give", "z", 1))), ("a", self.thing), ("z", 1))
        self.assertEqual(self.store.sort_of(made), "kind")
        self.assertEqual(self.store.above(self.copies(self.kind, ("c", "kind c"), ("top", "kind top"))), ALL)

    def test_the_first_four_are_barred(self):
        for base in (ALL, KINDS, DEEDS, FRAMES):
            for thing in (base, stand(self.store, base), view(self.store, base, names=())):
                self.fault_of_very("barred", thing, self.keeps, self.store, copied, self.store, thing)
                self.fault_of_very("wrong", thing, self.keeps, self.store, copied_deep, self.store, thing)
            rules = tuple(("give", name, 1) for name in names(8))
            many = base
            for _ in range(4):
                many = stand(self.store, many, rules)
                rules = tuple(("give", "z" + name, 1) for _, name, _ in rules)
            self.fault_of_very("barred", many, self.keeps, self.store, copied, self.store, many)

    def test_thirty_shown_rows_and_more(self):
        for thing in (self.thing, self.kind):
            have = len(self.store.rows(thing))
            for name in names(30 - have):
                self.store.put(thing, name, 1)
            self.copies(thing, *self.store.rows(thing).items())
            self.store.put(thing, "more", 1)
            self.fault("many", 31, self.keeps, self.store, copied, self.store, thing)
            self.copies(stand(self.store, thing, (("hide", "c"),)), *[(name, worth) for name, worth in
                                                                     self.store.rows(thing).items() if name != "c"])
            over = stand(self.store, thing, (("give", "x", 1), ("give", "y", 1)))
            self.fault("many", 33, self.keeps, self.store, copied, self.store, over)

    def test_wants(self):
        top = self.store.kind("wtop", wants=("a", "b"))
        low = self.store.kind("wlow", above=top, wants=("c",))
        thing = self.store.plain(low, rows={"a": 1, "b": 2, "c": 3, "d": 4})
        for rules, name in (((("hide", "a"), ("hide", "b")), "a"), ((("hide", "b"), ("bar", "c")), "c"),
                            ((("as", "x", "b"),), "b")):
            front = stand(self.store, thing, rules)
            for call in (copied, copied_deep):
                self.fault("wants", name, self.keeps, self.store, call, self.store, front)
        front = stand(self.store, thing, (("as", "x", "d"), ("give", "b", 9)))
        self.copies(front, ("a", 1), ("b", 9), ("c", 3), ("x", 4))
        kept = view(self.store, thing, names=("a", "b", "d"))
        self.fault("wants", "c", self.keeps, self.store, copied, self.store, kept)

    def test_a_row_of_the_kind_is_no_own_one_for_what_is_wanted(self):
        kind = self.store.kind("w", wants=("a",), rows={"a": 1})
        thing = self.store.plain(kind, rows={"a": 2, "b": 3})
        self.fault("wants", "a", copied, self.store, stand(self.store, thing, (("hide", "a"),)))

    def test_many_stands_ahead_of_wants_and_wants_ahead_of_full(self):
        kind = self.store.kind("w", wants=("a",))
        thing = self.store.plain(kind, rows={"a": 2})
        front = stand(self.store, thing, (("hide", "a"),))
        while len(self.store) < 200:
            self.store.plain(ALL)
        for call in (copied, copied_deep):
            self.fault("wants", "a", self.keeps, self.store, call, self.store, front)
            self.fault("full", 200, self.keeps, self.store, call, self.store, thing)
        self.fault("full", 200, self.keeps, self.store, copied, self.store, self.kind)
        self.fault("barred", ALL, self.keeps, self.store, copied, self.store, ALL)
        self.fault("wrong", self.kind, self.keeps, self.store, copied_deep, self.store, self.kind)
        for name in names(31):
            self.store.put(thing, name, 1)
        for call in (copied, copied_deep):
            self.fault("many", 31, self.keeps, self.store, call, self.store, front)

    def test_copies_count_nothing(self):
        front = self.stand(("count", "own"), ("count", "b"))
        shown_rows(self.store, front)
        copied(self.store, front)
        copied_deep(self.store, front)
        self.assertEqual(counted(self.store, front), {"own": 0, "b": 0})


class Deep(Checks, unittest.TestCase):

    def setUp(self):
        self.store = Store()
        self.kind = self.store.kind("k")

    def things(self, many):
        return [self.store.plain(self.kind, rows={}) for _ in range(many)]

    def led(self, thing, **rows):
        for name, worth in rows.items():
            self.store.put(thing, name, worth)

    def copied(self, thing, *elders):
        """The numbers of the copies by those of the elders, which are met in this order."""
        many, before = len(self.store), self.store.twin()
        worth, pairs = copied_deep(self.store, thing)
        self.assertIs(pairs.__class__, list)
        self.assertEqual(pairs, [(elder[1], many + at) for at, elder in enumerate(elders)])
        self.assertEqual(worth, ("thing", many))
        self.assertEqual(len(self.store), many + len(elders))
        for number in range(many):
            self.assertEqual(self.store.record(("thing", number)).told(), before.record(("thing", number)).told())
        for elder, new in pairs:
            self.assertEqual(self.store.sort_of(("thing", new)), "plain")
            self.assertEqual(self.store.kind_of(("thing", new)), self.store.kind_of(("thing", elder)))
        return [("thing", many + at) for at in range(len(elders))]

    def test_a_thing_alone(self):
        one, = self.things(1)
        self.led(one, x=1, y=row(1, "a", None))
        new, = self.copied(one, one)
        self.assertEqual(list(self.store.rows(new).items()), [("x", 1), ("y", row(1, "a", None))])

    def test_things_in_rows_and_in_rows_within_rows(self):
        one, two, three, four = self.things(4)
        self.led(one, a=row(1, row(three, "x")), b=two, c=row(four, four, three))
        self.led(two, v=2)
        new = self.copied(one, one, three, two, four)
        self.assertEqual(self.store.rows(new[0]), {"a": row(1, row(new[1], "x")), "b": new[2],
                                                   "c": row(new[3], new[3], new[1])})
        self.assertEqual(self.store.rows(new[2]), {"v": 2})

    def test_rings(self):
        one, two, three = self.things(3)
        self.led(one, a=one, b=two)
        self.led(two, a=three, b=one, c=row(two))
        self.led(three, a=two)
        new = self.copied(one, one, two, three)
        self.assertEqual(self.store.rows(new[0]), {"a": new[0], "b": new[1]})
        self.assertEqual(self.store.rows(new[1]), {"a": new[2], "b": new[0], "c": row(new[1])})
        self.assertEqual(self.store.rows(new[2]), {"a": new[1]})

    def test_each_thing_s_rows_wholly_ahead_of_what_is_next(self):
        one, two, three, four, five, six = self.things(6)
        self.led(one, z=row(two, three), a=four)
        self.led(two, a=five, b=row(six))
        self.led(five, a=four)
        self.led(four, a=three)
        self.copied(one, one, two, five, four, three, six)

    def test_a_long_chain(self):
        things = self.things(95)
        for at, thing in enumerate(things[:-1]):
            self.led(thing, a=row(row(row(row(things[at + 1])))))
        new = self.copied(things[0], *things)
        self.assertEqual(self.store.rows(new[-2]), {"a": row(row(row(row(new[-1]))))})

    def test_all_other_things_are_shared(self):
        one, two = self.things(2)
        deed = self.store.deed(("a", (), ()))
        ruled = stand(self.store, two, (("count", "a"),))
        seen = view(self.store, two)
        self.led(one, a=self.kind, b=deed, c=ruled, d=seen, e=row(seen, ALL))
        new, = self.copied(one, one)
        self.assertEqual(self.store.rows(new), self.store.rows(one))

    def test_stands_without_rules_are_gone_through(self):
        one, two = self.things(2)
        bare = stand(self.store, two)
        twice = stand(self.store, bare)
        own = stand(self.store, one)
        seen = view(self.store, two)
        over_view = stand(self.store, seen)
        over_kind = stand(self.store, stand(self.store, self.kind))
        ruled = stand(self.store, bare, (("hide", "a"),))
        over_ruled = stand(self.store, ruled)
        self.led(one, a=row(twice, 1), b=own, c=over_view, d=over_kind, e=over_ruled, f=row(bare, twice))
        new = self.copied(one, one, two)
        self.assertEqual(self.store.rows(new[0]), {"a": row(new[1], 1), "b": new[0], "c": seen, "d": self.kind, "e": ruled,
                                                   "f": row(new[1], new[1])})

    def test_a_taken_view_in_a_row_is_shared(self):
        one, two = self.things(2)
        seen = view(self.store, two)
        self.led(one, a=seen)
        take_back(self.store, seen)
        new, = self.copied(one, one)
        self.assertEqual(self.store.rows(new), {"a": seen})

    def test_names_that_are_shared(self):
        top = self.store.kind("top", shares=("a",))
        low = self.store.kind("low", above=top, shares=("b",))
        one, two, three, four = self.things(4)
        bare = stand(self.store, two)
        self.store.turn(one, low)
        self.led(one, a=two, b=row(one, bare), c=three, d=row(bare))
        self.store.turn(three, top)
        self.led(three, a=four, b=one)
        new = self.copied(one, one, three, two)
        self.assertEqual(self.store.rows(new[0]), {"a": two, "b": row(one, bare), "c": new[1], "d": row(new[2])})
        self.assertEqual(self.store.rows(new[1]), {"a": four, "b": new[0]})

    def test_what_a_kind_s_own_row_leads_to_is_not_gone_through(self):
        one, two = self.things(2)
        self.store.put(self.kind, "a", two)
        new, = self.copied(one, one)
        self.assertEqual(self.store.rows(new), {})

    def test_fronts_asked(self):
        one, two, three, four = self.things(4)
        self.led(one, a=two, b=three, c=one)
        self.led(two, a=one)
        front = stand(self.store, one, (("hide", "b"), ("as", "x", "a"), ("give", "y", row(four, one))))
        new = self.copied(front, one, two, four)
        self.assertEqual(list(self.store.rows(new[0]).items()), [("x", new[1]), ("c", new[0]),
                                                                 ("y", row(new[2], new[0]))])
        self.assertEqual(self.store.rows(new[1]), {"a": new[0]})
        bare = stand(self.store, one)
        self.led(two, a=bare, b=front)
        new = self.copied(view(self.store, front, names=("x",)), one, two)
        self.assertEqual(self.store.rows(new[0]), {"x": new[1]})
        self.assertEqual(self.store.rows(new[1]), {"a": new[0], "b": front})

    def test_of_the_asked_front_the_names_that_are_shown_are_shared(self):
        kind = self.store.kind("s", shares=("a", "x", "g"))
        one, two, three, four = self.things(4)
        self.store.turn(one, kind)
        self.led(one, a=two, b=three)
        front = stand(self.store, one, (("as", "x", "b"), ("as", "y", "a"), ("give", "g", four), ("give", "h", four)))
        new = self.copied(front, one, two, four)
        self.assertEqual(self.store.rows(new[0]), {"y": new[1], "x": three, "g": four, "h": new[2]})

    def test_more_than_thirty_rows(self):
        one, two = self.things(2)
        for name in names(31):
            self.store.put(two, name, 1)
        self.led(one, a=two)
        new = self.copied(one, one, two)
        self.assertEqual(self.store.rows(new[1]), self.store.rows(two))
        self.fault("many", 31, self.keeps, self.store, copied_deep, self.store, two)
        for name in names(29):
            self.store.put(one, name, 1)
        self.copied(one, one, two)
        self.store.put(one, "zz", 1)
        self.fault("many", 31, self.keeps, self.store, copied_deep, self.store, one)

    def test_room_for_all_or_none_copied(self):
        one, two, three = self.things(3)
        self.led(one, a=two)
        self.led(two, a=three)
        while len(self.store) < 197:
            self.store.plain(ALL)
        self.copied(one, one, two, three)
        self.assertEqual(len(self.store), 200)
        self.fault("full", 200, self.keeps, self.store, copied_deep, self.store, one)
        self.store.lay(self.without_last(2))
        self.fault("full", 200, self.keeps, self.store, copied_deep, self.store, one)
        self.copied(two, two, three)

    def without_last(self, many):
        """The Store as it would be without its last things."""
        other = Store()
        for number in range(4, len(self.store) - many):
            other.added(self.store.record(("thing", number)).twin())
        return other

    def test_by_names_and_new_each_time(self):
        one, = self.things(1)
        told = copied_deep(thing=one, store=self.store)
        told[1].clear()
        self.assertEqual(copied_deep(self.store, one)[1], [(5, 7)])

    def test_copies_by_chance(self):
        """A copy is alike with its elder, shares no plain thing with it, and has the pairs that are told."""
        for seed in range(100):
            chance = random.Random(seed)
            store = Store()
            kinds = [store.kind("k"), store.kind("l")]
            things = [store.plain(chance.choice(kinds)) for _ in range(8)]
            for thing in things:
                for name in chance.sample("abcd", chance.randrange(4)):
                    parts = [chance.choice(things + [1, None, "x", kinds[0]]) for _ in range(2)]
                    store.put(thing, name, chance.choice((parts[0], row(*parts), row(1, row(*parts)))))
            worth, pairs = copied_deep(store, things[0])
            self.assertEqual(alike(store, things[0], worth), sorted(pairs))
            self.assertEqual(alike(store, worth, things[0]), sorted((new, elder) for elder, new in pairs))
            self.assertEqual([elder for elder, _ in pairs], list(met_by(store, things[0][1], {})))


def met_by(store, number, met):
    """The numbers of all plain things to which rows lead, one within the other."""
    if number not in met and store.sort_of(("thing", number)) == "plain":
        met[number] = True
        for worth in store.rows(("thing", number)).values():
            met_in(store, worth, met)
    return met


def met_in(store, worth, met):
    if isinstance(worth, tuple) and worth[0] == "row":
        for part in worth[1]:
            met_in(store, part, met)
    elif isinstance(worth, tuple):
        met_by(store, worth[1], met)


if __name__ == "__main__":
    unittest.main()
