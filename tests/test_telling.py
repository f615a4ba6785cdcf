"""Promises 91 to 95, 103 and 111 to 113: calls by Machines against another telling of them, by chance numbers."""

import random
import unittest

from deeds import deed
from innerlook.errors import Fault
from innerlook.fronts import counted, stand
from innerlook.machine import Machine
from innerlook.views import take_back, view, view_of
from innerlook.wraps import put_on, remembered
from programs import Programs
from telling import Frame, Telling

LOOKS = ("has", "names", "owner", "under", "params", "title", "copy", "deep", "kind", "stand", "narrow")
WORDS = LOOKS + ("get", "call", "set", "new")
NAMES = ("own", "n", "next", "k", "f", "g", "q", "a")
WAYS = ("deed bef (a b=2 *x=3 *t=none) / let q here / set me 'own' (add (get me 'own') a)",
        "deed aro (a b=2 *x=3 *t=none) / let z (onward a b=(add b 1)) / give (add z (onward (sub a 1) x=1))",
        "deed beh (a) / do (look title here)")


class Built:
    """Programs with looks in a Store of fronts and wraps, and a call that is to be done."""

    def __init__(self, seed):
        self.numbers = numbers = random.Random(seed)
        programs = Programs(seed, looks=LOOKS)
        self.store, self.kind, self.things = programs.store, programs.kind, programs.things
        fronts = []
        for _ in range(numbers.randrange(6)):
            fronts.append(self.front(numbers.choice(self.things + fronts + [self.kind])))
        for thing in self.things:
            if fronts and numbers.random() < 0.8:
                self.store.put(thing, "next", numbers.choice(fronts))
        self.wrap([self.store.deed(deed(text)) for text in WAYS])
        self.thing = numbers.choice(self.things + fronts)
        self.name = numbers.choice("ffgh")
        self.args = (numbers.randrange(4),)
        self.named = numbers.choice(({}, {"t": numbers.choice(self.things)}))

    def front(self, back):
        numbers = self.numbers
        if numbers.random() < 0.3:
            made = view(self.store, back, names=numbers.choice((None, tuple(numbers.sample(NAMES, 7)))),
                        asks=numbers.choice((None, tuple(numbers.sample(WORDS, 13)))))
            if numbers.random() < 0.1:
                take_back(self.store, made)
            return made
        rules = [numbers.choice((("hide", name), ("bar", name), ("as", name, numbers.choice(NAMES)),
                                 ("give", name, numbers.choice((3, self.things[0])))))
                 for name in numbers.sample(NAMES, numbers.randrange(3))]
        counts = [("count", name) for name in numbers.sample(NAMES, numbers.randrange(4))]
        return stand(self.store, back, tuple(rules + counts))

    def wrap(self, deeds):
        for name in "fgh":
            for _ in range(self.numbers.randrange(3)):
                put_on(self.store, self.kind, name, self.numbers.choice((
                    ("kept",), ("often", self.numbers.randrange(4)), ("before", deeds[0]), ("around", deeds[1]),
                    ("behind", deeds[2]))))


class Told(unittest.TestCase):

    def test_answers_faults_and_stores(self):
        ends = {}
        for seed in range(700):
            built = Built(seed)
            before = built.store.twin()
            telling = Telling(built.store.twin())
            end = self.end(lambda: telling.call(built.thing, built.name, built.args, built.named))
            found = self.end(lambda: self.run_machine(built, telling))
            self.assertEqual(end, found, seed)
            if end[0] == "told":
                self.holds(built.store, telling, seed)
            else:
                self.assertTrue(built.store == before, seed)
            ends[end[0]] = ends.get(end[0], 0) + 1
        self.assertGreater(ends["told"], 300)
        self.assertTrue({"wrong", "lacks", "barred", "gone"} <= set(ends), ends)

    def run_machine(self, built, telling):
        machine = Machine(built.store, built.thing, built.name, args=built.args, named=built.named)
        worth = machine.worth() if machine.is_done() else machine.run()
        self.assertEqual(machine.counted(), telling.counted)
        return worth

    def end(self, call):
        try:
            return "told", call()
        except Fault as fault:
            return fault.why, fault.found

    def holds(self, store, telling, seed):
        """The Stores are alike, with what is counted and remembered."""
        other = telling.store
        self.assertEqual(len(store), len(other), seed)
        for number in range(len(store)):
            thing = ("thing", number)
            sort = store.sort_of(thing)
            self.assertEqual(sort, other.sort_of(thing))
            if sort in ("plain", "kind"):
                self.assertEqual(list(store.rows(thing).items()), list(other.rows(thing).items()), (seed, thing))
                self.assertEqual(store.kind_of(thing), other.kind_of(thing))
            elif sort == "stand":
                self.assertEqual(counted(store, thing), telling.counts.get(thing, {}), (seed, thing))
            elif sort == "view":
                self.assertEqual(view_of(store, thing), view_of(other, thing))
            elif sort == "wrap":
                told = telling.left.get(thing, telling.kept.get(thing))
                self.assertEqual(remembered(store, thing), told, (seed, thing))
            elif sort == "frame":
                one, two = store.record(thing), other.record(thing)
                self.assertIsInstance(two, Frame)
                self.assertEqual((one.deed(), one.me(), one.is_over(), one.worths()),
                                 (two.tree, two.me, True, two.names))


if __name__ == "__main__":
    unittest.main()
