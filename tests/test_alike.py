"""Promise 84: what is alike, by which pairs, and which lists of pairs show it."""

import itertools
import random
import unittest

from checks import STRANGE_THINGS, Checks, row
from innerlook.alike import alike, shows_alike
from innerlook.copies import copied_deep
from innerlook.errors import NoStore, NoWorth
from innerlook.fronts import stand
from innerlook.store import Store
from innerlook.views import view
from test_store import ALL, KINDS


class Alike(Checks, unittest.TestCase):

    def setUp(self):
        self.store = Store()
        self.kind = self.store.kind("k")

    def thing(self, kind=None, **rows):
        return self.store.plain(self.kind if kind is None else kind, rows=rows)

    def are(self, one, other, *pairs):
        """Two worths are alike by these pairs of things, and by no fewer."""
        told = self.keeps(self.store, alike, self.store, one, other)
        self.assertEqual(told, sorted((first[1], second[1]) for first, second in pairs))
        self.assertIs(told.__class__, list)
        self.shown(one, other, told)
        self.shown(one, other, told[::-1])
        for at in range(len(told)):
            self.assertIs(shows_alike(self.store, one, other, told[:at] + told[at + 1:]), False)
        self.assertEqual(alike(self.store, other, one), sorted((second, first) for first, second in told))

    def shown(self, one, other, thing, told=True):
        self.assertIs(self.keeps(self.store, shows_alike, self.store, one, other, thing), told)

    def are_not(self, one, other):
        self.assertIsNone(self.keeps(self.store, alike, self.store, one, other))
        self.assertIsNone(alike(self.store, other, one))
        many = len(self.store)
        for first, second in itertools.product(range(4, many), repeat=2):
            self.shown(one, other, [(first, second)], False)
        self.shown(one, other, [], False)

    def test_worths_without_plain_things(self):
        deed = self.store.deed(("a", (), ()))
        worths = (0, 1, "", "0", "a", None, ALL, KINDS, self.kind, deed, row(), row(0), row(0, 1), row("0"), row(None),
                  row(row()), row(row(0)), row(ALL))
        for one in worths:
            for other in worths:
                if one == other:
                    self.are(one, other)
                else:
                    self.are_not(one, other)

    def test_plain_things_are_pairs_also_with_themselves(self):
        one, other = self.thing(a=1), self.thing(a=1)
        self.are(one, one, (one, one))
        self.are(one, other, (one, other))
        self.are(row(1, one, row(other)), row(1, one, row(other)), (one, one), (other, other))
        self.are(row(1, one, row(other)), row(1, other, row(one)), (one, other), (other, one))

    def test_things_that_are_unlike(self):
        one = self.thing(a=1, b="x")
        for other in (self.thing(a=2, b="x"), self.thing(a=1), self.thing(a=1, b="x", c=1), self.thing(a=1, c="x"),
                      self.thing(kind=ALL, a=1, b="x"), self.thing(a=1, b=None), self.thing(a="x", b=1)):
            self.are_not(one, other)
        for worth in (1, None, "x", row(one), self.kind):
            self.are_not(one, worth)

    def test_the_order_of_rows_is_nothing(self):
        one, other = self.thing(a=1, b=2, c=3), self.thing(c=3, a=1, b=2)
        self.are(one, other, (one, other))

    def test_rows_of_kinds_are_nothing_to_it(self):
        self.store.put(self.kind, "a", 1)
        self.are_not(self.thing(), self.thing(a=1))

    def test_things_within_things(self):
        low, other_low = self.thing(x=1), self.thing(x=1)
        one, other = self.thing(a=low, b=row(low, 2)), self.thing(a=other_low, b=row(other_low, 2))
        self.are(one, other, (one, other), (low, other_low))
        mixed = self.thing(a=low, b=row(other_low, 2))
        self.are_not(one, mixed)
        self.are_not(mixed, other)

    def test_shared_things_are_paired_with_themselves(self):
        low = self.thing(x=1)
        one, other = self.thing(a=low), self.thing(a=low)
        self.are(one, other, (one, other), (low, low))

    def test_no_thing_is_first_of_two_pairs_or_second_of_two(self):
        one, two, three = self.thing(), self.thing(), self.thing()
        self.are_not(row(one, one), row(two, three))
        self.are_not(row(two, three), row(one, one))
        self.are(row(one, one), row(two, two), (one, two))
        self.are(row(one, two), row(two, three), (one, two), (two, three))
        self.are(row(one, two, three), row(three, one, two), (one, three), (two, one), (three, two))

    def test_rings(self):
        def ring(many):
            things = [self.thing() for _ in range(many)]
            for at, thing in enumerate(things):
                self.store.put(thing, "next", things[(at + 1) % many])
            return things
        one, other, three = ring(2), ring(2), ring(3)
        self.are(one[0], other[0], *zip(one, other))
        self.are(one[0], other[1], (one[0], other[1]), (one[1], other[0]))
        self.are(one[0], one[1], (one[0], one[1]), (one[1], one[0]))
        self.are_not(one[0], three[0])
        self.are(three[0], three[1], *[(three[at], three[(at + 1) % 3]) for at in range(3)])
        self.are_not(one[0], ring(1)[0])

    def test_a_long_chain(self):
        def a_chain(last):
            thing = self.thing(last=last)
            for _ in range(90):
                thing = self.thing(next=row(row(row(row(thing)))))
            return thing
        one, other = a_chain(1), a_chain(1)
        self.assertEqual(len(alike(self.store, one, other)), 91)
        self.shown(one, other, alike(self.store, one, other))
        self.store.put(("thing", 96), "last", 2)
        self.assertIsNone(alike(self.store, one, other))

    def test_fronts_are_the_same_or_not(self):
        one, other = self.thing(), self.thing()
        front, again = stand(self.store, one), stand(self.store, one)
        seen = view(self.store, one)
        for worth in (front, seen, row(front, seen)):
            self.are(worth, worth)
        for first, second in ((front, again), (front, one), (front, seen), (front, other)):
            self.are_not(first, second)
        self.are(self.thing(a=front), self.thing(a=front), (("thing", 10), ("thing", 11)))
        self.assertEqual(len(self.store), 12)

    def test_papers_with_more_pairs_than_are_needed(self):
        one, other, two, three = self.thing(a=1), self.thing(a=1), self.thing(b=1), self.thing(b=1)
        pair = (one[1], other[1])
        self.shown(one, other, [pair])
        self.shown(one, other, [(two[1], three[1]), pair])
        self.shown(one, other, [pair, (two[1], two[1])])
        self.shown(1, 1, [pair])
        self.shown(1, 1, [])
        self.shown(one, other, [pair, (two[1], one[1])], False)
        self.shown(one, other, [pair, (two[1], self.thing(a=1)[1])], False)
        self.shown(1, 1, [(two[1], one[1])], False)
        self.shown(1, 2, [pair], False)

    def test_a_pair_more_holds_by_the_pairs_told_alone(self):
        low, low_too = self.thing(), self.thing()
        one, other = self.thing(a=low), self.thing(a=low_too)
        self.shown(1, 1, [(one[1], other[1])], False)
        self.shown(1, 1, [(one[1], other[1]), (low[1], low[1])], False)
        self.shown(1, 1, [(one[1], other[1]), (low[1], low_too[1])])
        self.shown(one, other, [(one[1], other[1]), (low[1], low_too[1])])

    def test_papers_of_which_a_thing_stands_in_two_pairs(self):
        one, two, three = self.thing(), self.thing(), self.thing()
        for pairs in ([(one, two), (one, three)], [(one, two), (three, two)], [(one, two), (one, two)],
                      [(one, three), (one, two)], [(three, two), (one, two)], [(one, two), (two, three), (two, one)]):
            self.shown(one, two, [(first[1], second[1]) for first, second in pairs], False)
        self.shown(one, two, [(one[1], two[1]), (two[1], one[1])])

    def test_things_that_are_no_papers(self):
        one, other = self.thing(), self.thing()
        first, second = one[1], other[1]
        good = (first, second)
        for thing in (None, True, 1, "x", (), {}, (good,), tuple([good]), {first: second}, good, [list(good)], [[good]],
                      [(first,)], [(first, second, 1)], [()], [first], [None], [good, None], [(first, True)],
                      [(str(first), second)], [(one, other)], [good, (first, 999)], [good, (-1, -1)], [good, (0, 0)],
                      [good, (self.kind[1], self.kind[1])], [good, (10 ** 29, 10 ** 29)], [good, ([], second)],
                      [good, (7, 7)], [(None, None)], self.store) + STRANGE_THINGS:
            self.shown(one, other, thing, False)
        self.shown(one, other, [good])
        deed = self.store.deed(("a", (), ()))
        front = stand(self.store, one)
        for worth in (deed, front, self.kind, ALL):
            for pair in ((one[1], worth[1]), (worth[1], one[1]), (worth[1], worth[1])):
                self.shown(1, 1, [pair], False)
                self.shown(worth, worth, [pair], False)

    def test_refused(self):
        good = self.thing()
        missing = ("thing", len(self.store))
        for thing in STRANGE_THINGS + (None, 5):
            self.refused(NoStore, thing, alike, thing, True, True)
            self.refused(NoStore, thing, shows_alike, thing, True, True, [])
        for worth in (True, [], "x" * 61, missing, row(1, row(missing)), ("thing", 999), {}, self.store, ["row", ()]):
            self.refused(NoWorth, worth, alike, self.store, worth, True)
            self.refused(NoWorth, worth, alike, self.store, good, worth)
            self.refused(NoWorth, worth, shows_alike, self.store, worth, True, [])
            self.refused(NoWorth, worth, shows_alike, self.store, good, worth, [])
        self.assertEqual(alike(other=good, one=good, store=self.store), [(good[1], good[1])])
        self.assertIs(shows_alike(thing=[], other=1, one=1, store=self.store), True)

    def test_what_is_told_is_new_and_may_be_handed_in_again(self):
        one, other = self.thing(), self.thing()
        told = alike(self.store, one, other)
        self.shown(one, other, told)
        told.clear()
        self.assertEqual(alike(self.store, one, other), [(one[1], other[1])])

    def test_by_chance(self):
        """What is told is held against all ways to put pairs together."""
        for seed in range(60):
            chance = random.Random(seed)
            store = Store()
            things = [store.plain(ALL) for _ in range(4)]
            for thing in things:
                for name in "ab"[:chance.choice((1, 1, 2))]:
                    store.put(thing, name, chance.choice(things + [1, row(chance.choice(things))]))
            for one, other in itertools.product(things, repeat=2):
                told = alike(store, one, other)
                papers = [paper for paper in all_papers([thing[1] for thing in things])
                          if shows_alike(store, one, other, paper)]
                if told is None:
                    self.assertEqual(papers, [])
                else:
                    self.assertEqual(min(papers, key=len), told)
                    self.assertEqual([len(paper) for paper in papers].count(len(told)), 1)

    def test_a_deep_copy_is_alike(self):
        low = self.thing(x=1)
        one = self.thing(a=low, b=row(low))
        worth, pairs = copied_deep(self.store, one)
        self.are(one, worth, *[(("thing", elder), ("thing", new)) for elder, new in pairs])


def all_papers(numbers):
    """All lists of pairs of which no number is first or second twice."""
    for many in range(len(numbers) + 1):
        for firsts in itertools.combinations(numbers, many):
            for seconds in itertools.permutations(numbers, many):
                yield list(zip(firsts, seconds))


if __name__ == "__main__":
    unittest.main()
