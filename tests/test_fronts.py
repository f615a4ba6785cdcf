"""Promises 61 to 64: stands, their rules, where names are led, what is shown, and what is told of them."""

import itertools
import random
import unittest

from checks import STRANGE_THINGS, Checks, names, row
from innerlook.errors import NoKind, NoName, NoRows, NoRules, NoStore, NoThing, NoWorth
from innerlook.fronts import Front, are_rules, bare_worth, base_of, behind, chain, counted, is_front, led, renamed, road
from innerlook.fronts import rules_of, shown, stand
from innerlook.plain import run_plain
from innerlook.store import Record, Store
from innerlook.views import take_back, view
from test_store import ALL, DEEDS, FRAMES, KINDS, NO_NAMES, NO_THINGS
from test_storenames import Odd

HIDE, BAR, AS, GIVE, COUNT = ("hide", "a"), ("bar", "b"), ("as", "c", "d"), ("give", "e", 5), ("count", "a")

GOOD_RULES = (
    (), (HIDE,), (BAR,), (AS,), (GIVE,), (COUNT,), (HIDE, BAR, AS, GIVE, COUNT), (COUNT, HIDE), (("as", "a", "a"),),
    (("as", "a", "b"), ("as", "c", "b")), (("as", "a", "b"), ("as", "b", "a")), (("as", "a", "b"), ("hide", "b")),
    (("give", "a", None),), (("give", "a", row(1, ("thing", 3))),), (("give", "a", ("thing", 999)),),
    (("give", "a", "a text"),), tuple(("hide", name) for name in names(8)),
    tuple(("count", name) for name in names(8)), (HIDE, ("count", "a"), BAR, ("count", "b")),
)
BAD_RULES = (
    None, 0, True, "hide", [], [HIDE], {}, HIDE, (HIDE, None), ("hide",), ((),), (("hide",),), (("hide", "a", 1),),
    (("bar", "a", "b"),), (("as", "a"),), (("as", "a", "b", "c"),), (("give", "a"),), (("give", "a", 1, 2),),
    (("count", "a", 1),), (("count",),), (["hide", "a"],), (("other", "a"),), (("", "a"),), ((None, "a"),),
    ((["hide"], "a"),), ((1, "a"),), (("Hide", "a"),), (("hide", "A"),), (("hide", "me"),), (("hide", None),),
    (("hide", 1),), (("hide", ["a"]),), (("bar", "here"),), (("as", "none", "a"),), (("as", "a", "none"),),
    (("as", "a", ""),), (("as", "a", None),), (("as", "a", ["a"]),), (("give", "abcdefghi", 1),),
    (("give", "a", True),), (("give", "a", []),), (("give", "a", ("thing", 1000)),), (("give", "a", "'"),),
    (("give", "a", row([])),), (("count", "none"),), (HIDE, HIDE), (HIDE, ("bar", "a")), (HIDE, ("as", "a", "b")),
    (HIDE, ("give", "a", 1)), (BAR, ("as", "b", "c")), (BAR, ("give", "b", 1)), (AS, ("give", "c", 1)),
    (AS, ("as", "c", "e")), (GIVE, GIVE), (COUNT, COUNT), (COUNT, HIDE, COUNT),
    tuple(("hide", name) for name in names(9)), tuple(("count", name) for name in names(9)),
    tuple(("hide", name) for name in names(5)) + tuple(("count", name) for name in names(4)),
)


class Built(Checks, unittest.TestCase):
    """A plain thing that shows own, b, c, top of its own and of its kinds, and one thing of each other sort."""

    def setUp(self):
        self.store = store = Store()
        self.kind = store.kind("box", rows={"c": "kind c", "top": "kind top"})
        self.thing = store.plain(self.kind, rows={"own": 1, "b": 2, "c": 3})
        self.deed = store.deed(("a", (), ()))
        self.wrap = store.added(Odd("wrap"))
        self.frame = store.added(Odd("frame"))
        self.bare = stand(store, self.thing)
        self.part = view(store, self.thing, names=("b", "c"))
        self.no_fronts = (ALL, KINDS, self.kind, self.thing, self.deed, self.wrap, self.frame)

    def stand(self, *rules, thing=None):
        return stand(self.store, self.thing if thing is None else thing, rules)


class Rules(Checks, unittest.TestCase):

    def test_what_rules_are(self):
        for rules in GOOD_RULES:
            self.assertIs(are_rules(rules), True, rules)
        for rules in BAD_RULES + STRANGE_THINGS + (Store(),):
            self.assertIs(are_rules(rules), rules == () and isinstance(rules, tuple), rules)
        self.assertIs(are_rules(thing=(HIDE,)), True)

    def test_one_name_has_one_of_the_four_and_one_count(self):
        each = (("hide", "a"), ("bar", "a"), ("as", "a", "b"), ("give", "a", 1), ("count", "a"))
        for one, other in itertools.product(each, repeat=2):
            fits = one != other and "count" in (one[0], other[0])
            self.assertIs(are_rules((one, other)), fits, (one, other))

    def test_renamed(self):
        rules = (HIDE, BAR, AS, ("give", "e", "a"), COUNT, ("count", "q"))
        self.assertEqual(renamed(rules, {}), rules)
        self.assertEqual(renamed(rules, {"a": "b", "b": "a", "q": "z"}), (
            ("hide", "b"), ("bar", "a"), AS, ("give", "e", "a"), ("count", "b"), ("count", "z")))
        self.assertEqual(renamed(rules, {"c": "d", "d": "c"})[2], ("as", "d", "c"))
        self.assertEqual(renamed(names={"d": "x"}, rules=rules)[2], ("as", "c", "x"))
        self.assertEqual(renamed((("as", "a", "b"),), {"b": "a", "x": "y"}), (("as", "a", "a"),))
        self.assertEqual(renamed((("give", "a", row("a", ("thing", 1))),), {"a": "b"}),
                         (("give", "b", row("a", ("thing", 1))),))

    def test_renamed_refused(self):
        for rules in BAD_RULES:
            self.refused(NoRules, rules, renamed, rules, "no dict")
        for found in (None, 5, [], (), "ab", {"a": "b", "c": "b"}, {"A": "b"}, {"a": "B"}, {1: "a"}, {"a": 1},
                      {None: "a"}, {"a": None}, {"a": ["b"]}, {"me": "a"}, {"a": "here"},
                      {name: name for name in names(31)}, Store()):
            self.refused(NoRows, found, renamed, (HIDE,), found)
        self.assertEqual(renamed((HIDE,), {name: name for name in names(30)}), (HIDE,))

    def test_renamed_to_what_are_no_rules(self):
        for rules, new, made in (((HIDE, BAR), {"a": "b"}, (("hide", "b"), BAR)),
                                 ((COUNT, ("count", "b")), {"b": "a"}, (COUNT, COUNT)),
                                 ((AS, HIDE), {"a": "c"}, (AS, ("hide", "c")))):
            with self.assertRaises(NoRules) as caught:
                renamed(rules, new)
            self.assertEqual(caught.exception.found, made)

    def test_what_is_handed_in_is_not_changed(self):
        new = {"a": "x"}
        renamed((HIDE,), new)
        self.assertEqual(new, {"a": "x"})


class Stands(Built):

    def test_a_stand_for_each_sort_of_thing(self):
        for thing in self.no_fronts + (self.bare, self.part):
            made = stand(self.store, thing, (HIDE,))
            self.assertEqual(made, ("thing", len(self.store) - 1))
            self.assertEqual(self.store.sort_of(made), "stand")
            self.assertEqual(behind(self.store, made), thing)
            self.assertEqual(rules_of(self.store, made), (HIDE,))
            self.assertIs(is_front(self.store, made), True)
        self.assertEqual(rules_of(self.store, self.bare), ())
        self.assertEqual(rules_of(self.store, stand(rules=(HIDE,), thing=self.thing, store=self.store)), (HIDE,))

    def test_fronts_and_bases(self):
        for thing in self.no_fronts:
            self.assertIs(is_front(self.store, thing), False)
            self.assertEqual(base_of(self.store, thing), thing)
            self.fault_of_very("wrong", thing, behind, self.store, thing)
            first = stand(self.store, thing)
            second = view(self.store, first)
            third = stand(self.store, second, (BAR,))
            for front in (first, second, third):
                self.assertIs(is_front(self.store, front), True)
                self.assertEqual(base_of(self.store, front), thing)
            self.assertEqual([behind(self.store, front) for front in (first, second, third)], [thing, first, second])

    def test_told_of_a_stand(self):
        made = self.stand(("count", "z"), HIDE, ("count", "a"), ("count", "b"))
        self.assertEqual(list(counted(self.store, made).items()), [("z", 0), ("a", 0), ("b", 0)])
        self.assertEqual(counted(self.store, self.bare), {})
        counted(self.store, made)["z"] = 9
        self.assertEqual(counted(self.store, made)["z"], 0)
        for thing in self.no_fronts + (self.part,):
            self.fault_of_very("wrong", thing, rules_of, self.store, thing)
            self.fault_of_very("wrong", thing, counted, self.store, thing)

    def test_refused(self):
        missing = ("thing", len(self.store))
        for rules in BAD_RULES + ((("give", "a", missing),), (HIDE, ("give", "b", row(row(missing))))):
            self.refused(NoRules, rules, self.keeps, self.store, stand, self.store, self.thing, rules)
        for thing in NO_THINGS:
            if thing != ("thing", 4):
                self.refused(NoThing, thing, self.keeps, self.store, stand, self.store, thing, "no rules")
                for call in (is_front, behind, base_of, shown, rules_of, counted, chain):
                    self.refused(NoThing, thing, call, self.store, thing)
                self.refused(NoThing, thing, led, self.store, thing, "No name")
                self.refused(NoThing, thing, road, self.store, thing, "No name")
        for thing in STRANGE_THINGS + (None, 5, "store"):
            self.refused(NoStore, thing, stand, thing, None, None)
            for call in (is_front, behind, base_of, shown, rules_of, counted, chain):
                self.refused(NoStore, thing, call, thing, None)
            self.refused(NoStore, thing, led, thing, None, None)
        for name in NO_NAMES:
            for thing in (self.thing, self.bare, self.part, self.deed):
                self.refused(NoName, name, led, self.store, thing, name)

    def test_a_full_store(self):
        while len(self.store) < 199:
            self.store.plain(ALL)
        self.assertEqual(self.stand(HIDE), ("thing", 199))
        self.fault("full", 200, self.keeps, self.store, stand, self.store, self.thing, (HIDE,))
        self.refused(NoRules, 5, stand, self.store, self.thing, 5)

    def test_stands_as_things_of_a_store(self):
        made = self.stand(HIDE, GIVE)
        for front in (made, self.bare, self.part):
            self.fault_of_very("wrong", front, self.store.kind_of, front)
            self.fault_of_very("wrong", front, self.store.rows, front)
            self.fault_of_very("wrong", front, self.store.deed_of, front)
            self.fault_of_very("wrong", front, self.store.met, front, "No name")
            self.fault_of_very("wrong", front, self.store.names, front)
            self.fault_of_very("wrong", front, self.store.put, front, "own", 1)
            self.fault_of_very("wrong", front, self.store.drop, front, "own")
            self.fault_of_very("wrong", front, self.store.turn, front, self.kind)
            self.fault_of_very("wrong", front, run_plain, self.store, front, "own")
            self.refused(NoKind, front, self.store.title_of, front)

    def test_equality_and_twins(self):
        def built(back, *rules):
            store = Store()
            store.plain(ALL)
            stand(store, back, rules)
            return store
        one, other = ("thing", 4), ALL
        self.assertTrue(built(one, HIDE, COUNT) == built(one, HIDE, COUNT))
        for store in (built(one), built(one, COUNT, HIDE), built(other, HIDE, COUNT), built(one, HIDE),
                      built(one, HIDE, ("count", "b")), built(one, BAR, COUNT)):
            self.assertFalse(store == built(one, HIDE, COUNT))
        store = built(one, COUNT, GIVE)
        twin = store.twin()
        self.assertTrue(twin == store)
        road(twin, ("thing", 5), "a", counts=True)
        self.assertFalse(twin == store)
        self.assertEqual([counted(held, ("thing", 5)) for held in (store, twin)], [{"a": 0}, {"a": 1}])
        store.lay(twin)
        self.assertTrue(twin == store)
        road(store, ("thing", 5), "a", counts=True)
        self.assertEqual([counted(held, ("thing", 5)) for held in (store, twin)], [{"a": 2}, {"a": 1}])

    def test_records(self):
        made = self.stand(("give", "a", row(self.thing, self.kind)))
        record = self.store.record(made)
        self.assertIsInstance(record, Front)
        self.assertIsInstance(record, Record)
        self.assertEqual(record.behind(), self.thing)
        self.assertIsNone(record.moved({self.thing[1]: 0, self.kind[1]: 0}))
        self.assertEqual(record.behind(), ALL)
        self.assertEqual(record.own_rules, (("give", "a", row(self.thing, self.kind)),))
        self.assertEqual(record.twin().told(), record.told())
        self.assertEqual((record.lets_word("get"), record.is_taken()), (True, False))
        front = Front(self.thing)
        self.assertEqual((front.behind(), front.leads("a"), front.front_shown(["a"])), (self.thing, ("on", "a"), ["a"]))
        self.assertEqual((front.lets_word("get"), front.is_taken(), front.notes("a")), (True, False, None))
        self.assertEqual(front.twin().told(), front.told())
        self.assertIn(self.thing, front.told())


class Led(Built):

    def leads(self, front, name, *told):
        self.assertEqual(self.keeps(self.store, led, self.store, front, name), told)

    def test_what_is_no_front(self):
        self.leads(self.thing, "own", "met", self.thing, "own", self.thing, 1)
        self.leads(self.thing, "top", "met", self.thing, "top", self.kind, "kind top")
        self.leads(self.thing, "no", "nowhere")
        for thing in (self.deed, self.wrap, self.frame):
            self.leads(thing, "own", "nowhere")
        self.leads(self.kind, "c", "met", self.kind, "c", self.kind, "kind c")

    def test_each_rule(self):
        made = self.stand(("hide", "own"), ("bar", "b"), ("as", "x", "c"), ("give", "y", row(self.kind)),
                          ("give", "top", None), ("as", "z", "nothing"), ("count", "own"))
        self.leads(made, "own", "nowhere")
        self.leads(made, "b", "barred", "b")
        self.leads(made, "x", "met", self.thing, "c", self.thing, 3)
        self.leads(made, "c", "nowhere")
        self.leads(made, "y", "given", row(self.kind))
        self.leads(made, "top", "given", None)
        self.leads(made, "z", "nowhere")
        self.leads(made, "nothing", "nowhere")
        self.leads(made, "other", "nowhere")
        self.assertEqual(led(name="x", thing=made, store=self.store), ("met", self.thing, "c", self.thing, 3))

    def test_two_as_to_one_name(self):
        made = self.stand(("as", "x", "own"), ("as", "y", "own"))
        for name in "xy":
            self.leads(made, name, "met", self.thing, "own", self.thing, 1)
        self.leads(made, "own", "nowhere")
        self.leads(made, "b", "met", self.thing, "b", self.thing, 2)

    def test_the_y_of_an_as_with_a_rule_of_its_own(self):
        self.leads(self.stand(("as", "x", "own"), ("give", "own", 7)), "own", "given", 7)
        self.leads(self.stand(("as", "x", "own"), ("bar", "own")), "own", "barred", "own")
        self.leads(self.stand(("as", "x", "own"), ("bar", "own")), "x", "met", self.thing, "own", self.thing, 1)
        self.leads(self.stand(("as", "own", "b"), ("as", "b", "own")), "own", "met", self.thing, "b", self.thing, 2)
        self.leads(self.stand(("as", "own", "b"), ("as", "b", "own")), "b", "met", self.thing, "own", self.thing, 1)
        self.leads(self.stand(("as", "own", "own")), "own", "met", self.thing, "own", self.thing, 1)
        self.leads(self.stand(("as", "own", "own"), ("as", "x", "own")), "own", "met", self.thing, "own", self.thing, 1)

    def test_stands_before_stands(self):
        inner = self.stand(("as", "x", "own"), ("bar", "b"), ("give", "g", 9), ("hide", "top"))
        outer = self.stand(("as", "y", "x"), ("as", "z", "b"), ("as", "w", "g"), ("as", "v", "top"), thing=inner)
        self.leads(outer, "y", "met", self.thing, "own", self.thing, 1)
        self.leads(outer, "z", "barred", "b")
        self.leads(outer, "w", "given", 9)
        self.leads(outer, "v", "nowhere")
        self.leads(outer, "x", "nowhere")
        self.leads(outer, "c", "met", self.thing, "c", self.thing, 3)
        outmost = self.stand(("give", "y", 5), ("as", "q", "y"), thing=outer)
        self.leads(outmost, "y", "given", 5)
        self.leads(outmost, "q", "met", self.thing, "own", self.thing, 1)

    def test_stands_before_views_and_views_before_stands(self):
        over = self.stand(("as", "x", "own"), ("as", "y", "b"), thing=self.part)
        self.leads(over, "x", "barred", "own")
        self.leads(over, "y", "met", self.thing, "b", self.thing, 2)
        self.leads(over, "top", "barred", "top")
        under = view(self.store, self.stand(("as", "x", "own"), ("bar", "b")), names=("x", "b", "own"))
        self.leads(under, "x", "met", self.thing, "own", self.thing, 1)
        self.leads(under, "b", "barred", "b")
        self.leads(under, "c", "barred", "c")
        self.leads(under, "own", "nowhere")

    def test_stands_before_things_of_other_sorts(self):
        for thing in (self.deed, self.wrap, self.frame):
            made = self.stand(GIVE, BAR, thing=thing)
            self.leads(made, "e", "given", 5)
            self.leads(made, "b", "barred", "b")
            self.leads(made, "own", "nowhere")
            self.assertEqual(shown(self.store, made), ["e"])
        made = self.stand(("as", "x", "c"), thing=self.kind)
        self.leads(made, "x", "met", self.kind, "c", self.kind, "kind c")
        self.assertEqual(shown(self.store, made), ["x", "top"])

    def test_told_from_outside_nothing_is_counted(self):
        made = self.stand(*[("count", name) for name in ("own", "b", "x")])
        for name in ("own", "b", "x"):
            led(self.store, made, name)
            road(self.store, made, name)
            road(self.store, made, name, counts=False)
        shown(self.store, made)
        self.assertEqual(counted(self.store, made), {"own": 0, "b": 0, "x": 0})


class Roads(Built):

    def test_roads(self):
        inner = self.stand(("as", "x", "own"), ("bar", "b"), ("give", "g", 9), ("hide", "top"))
        outer = self.stand(("as", "y", "x"), thing=inner)
        for name, told in (("y", ("base", self.thing, "own")), ("b", ("barred", "b")), ("g", ("given", 9)),
                           ("top", ("nowhere",)), ("x", ("nowhere",)), ("nothing", ("base", self.thing, "nothing"))):
            self.assertEqual(road(self.store, outer, name), told)
        self.assertEqual(road(self.store, self.deed, "own"), ("base", self.deed, "own"))
        self.assertEqual([record.told() for record in chain(self.store, outer)],
                         [self.store.record(one).told() for one in (outer, inner, self.thing)])
        self.assertEqual(chain(self.store, self.thing), [self.store.record(self.thing)])

    def test_names_are_counted_as_they_are_asked_of_each_front(self):
        inner = self.stand(("count", "x"), ("count", "y"), ("count", "own"), ("as", "x", "own"), ("bar", "b"),
                           ("count", "b"))
        outer = self.stand(("count", "y"), ("count", "x"), ("as", "y", "x"), ("count", "b"), ("count", "own"),
                           ("hide", "own"), thing=inner)
        for name in ("y", "b", "own", "b", "x", "nothing"):
            road(self.store, outer, name, counts=True)
        self.assertEqual(counted(self.store, outer), {"y": 1, "x": 1, "b": 2, "own": 1})
        self.assertEqual(counted(self.store, inner), {"x": 1, "y": 0, "own": 0, "b": 2})

    def test_a_view_that_bars_keeps_the_fronts_behind_from_counting(self):
        inner = self.stand(("count", "own"), ("count", "b"))
        outer = view(self.store, inner, names=("b",))
        for name in ("own", "b"):
            road(self.store, outer, name, counts=True)
        self.assertEqual(counted(self.store, inner), {"own": 0, "b": 1})

    def test_bare_worths(self):
        twice = stand(self.store, self.bare)
        ruled = self.stand(COUNT)
        over_ruled = stand(self.store, ruled)
        over_view = stand(self.store, self.part)
        for worth, bare in ((self.bare, self.thing), (twice, self.thing), (ruled, ruled), (over_ruled, ruled),
                            (over_view, self.part), (self.part, self.part), (self.thing, self.thing), (5, 5), (None, None),
                            ("a", "a"), (row(), row()), (row(1, twice, row(over_ruled, self.bare, "x")),
                                                        row(1, self.thing, row(ruled, self.thing, "x")))):
            self.assertEqual(self.keeps(self.store, bare_worth, self.store, worth), bare)
        for worth in (True, [], ("thing", len(self.store)), row(("thing", 999))):
            self.refused(NoWorth, worth, bare_worth, self.store, worth)
        self.refused(NoStore, 5, bare_worth, 5, True)


class Shown(Built):

    def test_the_order_of_names(self):
        self.assertEqual(shown(self.store, self.thing), ["own", "b", "c", "top"])
        for rules, told in (
                ((), ["own", "b", "c", "top"]), ((("hide", "b"),), ["own", "c", "top"]), ((("bar", "own"),), ["b", "c", "top"]),
                ((("give", "b", 1),), ["own", "b", "c", "top"]), ((("give", "x", 1),), ["own", "b", "c", "top", "x"]),
                ((("give", "y", 1), ("give", "c", 2), ("give", "x", 1)), ["own", "b", "c", "top", "y", "x"]),
                ((("as", "x", "b"),), ["own", "x", "c", "top"]),
                ((("as", "y", "b"), ("as", "x", "b")), ["own", "y", "x", "c", "top"]),
                ((("as", "x", "b"), ("give", "b", 1)), ["own", "b", "x", "c", "top"]),
                ((("as", "own", "c"),), ["b", "own", "top"]), ((("as", "own", "b"), ("as", "b", "own")), ["b", "own", "c", "top"]),
                ((("as", "b", "b"),), ["own", "b", "c", "top"]), ((("as", "x", "nothing"),), ["own", "b", "c", "top"]),
                ((("as", "x", "b"), ("hide", "b")), ["own", "x", "c", "top"]),
                ((("as", "x", "g"), ("give", "g", 1)), ["own", "b", "c", "top", "g"]),
                ((("count", "b"), ("count", "x")), ["own", "b", "c", "top"]),
                ((("as", "b", "nothing"),), ["own", "c", "top"])):
            self.assertEqual(self.keeps(self.store, shown, self.store, self.stand(*rules)), told, rules)

    def test_what_is_no_front(self):
        for thing in (self.deed, self.wrap, self.frame, ALL, DEEDS, FRAMES):
            self.assertEqual(shown(self.store, thing), [])
        self.assertEqual(shown(thing=self.kind, store=self.store), ["c", "top"])

    def test_through_several_fronts(self):
        inner = self.stand(("as", "x", "own"), ("give", "g", 1))
        outer = self.stand(("as", "z", "g"), ("hide", "c"), ("give", "a", 1), thing=inner)
        self.assertEqual(shown(self.store, outer), ["x", "b", "top", "z", "a"])
        through = view(self.store, outer, names=("a", "z", "x", "c"))
        self.assertEqual(shown(self.store, through), ["x", "z", "a"])
        shown(self.store, through).append("more")
        self.assertEqual(shown(self.store, through), ["x", "z", "a"])

    def test_a_name_is_shown_just_where_it_is_met_or_given(self):
        """Fronts by chance numbers."""
        words = ["own", "b", "c", "top", "x", "y", "z"]
        for seed in range(300):
            chance = random.Random(seed)
            store = self.store.twin()
            front = chance.choice((self.thing, self.kind, self.deed))
            for _ in range(chance.randrange(1, 4)):
                if chance.random() < 0.2:
                    front = view(store, front, names=tuple(chance.sample(words, 4)))
                else:
                    front = stand(store, front, rules_by_chance(chance, words))
            told = shown(store, front)
            self.assertEqual(len(set(told)), len(told))
            for name in words:
                self.assertEqual(led(store, front, name)[0] in ("met", "given"), name in told, (seed, name))


def rules_by_chance(chance, words):
    rules = []
    for name in chance.sample(words, chance.randrange(5)):
        rules.append(chance.choice((("hide", name), ("bar", name), ("as", name, chance.choice(words)),
                                    ("as", name, chance.choice(words)), ("give", name, chance.randrange(9)))))
    return tuple(rules) + tuple(("count", name) for name in chance.sample(words, chance.randrange(3)))


class Renamed(Built):
    """Promise 9: with all names called otherwise, in the same order, all is told likewise."""

    def test_fronts_with_other_names(self):
        words = ["b", "c", "own", "top", "x", "y", "z"]
        new = dict(zip(words, ["bb", "bc", "owner", "topper", "xx", "xy", "zz"]))
        other_store = Store()
        kind = other_store.kind("box", rows={new[name]: worth for name, worth in self.store.rows(self.kind).items()})
        thing = other_store.plain(kind, rows={new[name]: worth for name, worth in self.store.rows(self.thing).items()})
        for seed in range(100):
            rules = rules_by_chance(random.Random(seed), words)
            one, other = self.store.twin(), other_store.twin()
            front = stand(one, self.thing, rules)
            renamed_front = stand(other, thing, renamed(rules, new))
            self.assertEqual([new[name] for name in shown(one, front)], shown(other, renamed_front))
            for name in words:
                told = led(one, front, name)
                again = led(other, renamed_front, new[name])
                self.assertEqual(again[0], told[0])
                if told[0] == "met":
                    self.assertEqual((again[2], again[4]), (new[told[2]], told[4]))
                if told[0] == "barred":
                    self.assertEqual(again[1], new[told[1]])
                if told[0] == "given":
                    self.assertEqual(again[1], told[1])


class Gone(Built):
    """Promise 72, as far as stands are concerned."""

    def test_led_and_shown_of_stands_before_a_view_that_is_taken_back(self):
        front = self.stand(("give", "x", 1), ("hide", "b"), thing=self.part)
        outer = self.stand(GIVE, thing=front)
        take_back(self.store, self.part)
        for one in (self.part, front, outer):
            for name in ("x", "b", "c", "e"):
                self.fault_of_very("gone", one, led, self.store, one, name)
            self.fault_of_very("gone", one, shown, self.store, one)
            self.refused(NoName, "No name", led, self.store, one, "No name")
        self.assertEqual(led(self.store, self.thing, "b"), ("met", self.thing, "b", self.thing, 2))
        self.assertEqual(base_of(self.store, outer), self.thing)
        self.assertEqual(rules_of(self.store, outer), (GIVE,))
        self.assertEqual(behind(self.store, outer), front)


if __name__ == "__main__":
    unittest.main()
