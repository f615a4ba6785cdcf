"""Promises 103 and 104: what a call of a wrap does, of each way, of wraps within wraps, and what is remembered."""

import itertools
import random
import unittest

from checks import row
from deeds import deed
from house import House
from innerlook.errors import Fault
from innerlook.machine import Machine, called
from innerlook.plain import run_plain
from innerlook.store import Store
from innerlook.wraps import put_on, remembered, take_off, wraps_on


class Calls(House):
    """A deed core (n m=0), which gives n and 1 more, and what may be put around it, with the same parameters."""

    def setUp(self):
        House.setUp(self)
        self.core = self.has("f", "deed core (n m=0) / give (add n 1)")
        self.bef = self.store.deed(deed("deed bef (n m=0) / set me 'seen' (row 'before' n m) / give 99"))
        self.beh = self.store.deed(deed("deed beh (x) / set me 'seen' (row 'behind' x) / give 99"))
        self.aro = self.store.deed(deed("deed aro (n m=0) / let x (onward (add n 10) m=m) / give (add x 100)"))

    def put(self, *way):
        return put_on(self.store, self.sub, "f", way)

    def call(self, *args, me=None, **named):
        return called(self.store, self.thing if me is None else me, "f", args=args, named=named)

    def stops(self, *args):
        """How deep, and with which titles, a call stops."""
        machine, stops = Machine(self.store, self.thing, "f", args=args), []
        while not machine.is_done():
            told = machine.frames_told()
            stops.append((len(told), told[-1][0]))
            machine.step()
        return stops, machine.worth()


class EachWay(Calls):

    def test_before(self):
        self.put("before", self.bef)
        self.assertEqual(self.stops(3), ([(1, "bef"), (1, "bef"), (1, "core")], 4))
        self.assertEqual(self.store.rows(self.thing)["seen"], row("before", 3, 0))
        self.assertEqual(self.call(3, m=7), 4)
        self.assertEqual(self.store.rows(self.thing)["seen"], row("before", 3, 7))

    def test_behind(self):
        self.put("behind", self.beh)
        self.assertEqual(self.stops(3), ([(1, "core"), (1, "beh"), (1, "beh")], 4))
        self.assertEqual(self.store.rows(self.thing)["seen"], row("behind", 4))

    def test_around(self):
        self.put("around", self.aro)
        self.assertEqual(self.stops(3), ([(1, "aro"), (2, "core"), (1, "aro")], 114))

    def test_around_calls_as_often_as_it_says_with_what_it_says(self):
        for text, worth in (("give n", 3), ("give (onward)", None), ("give (add (onward n) (onward 50 m=1))", 55),
                            ("give (row (onward n=7) (onward (add m 2)) (onward n m))", row(8, 3, 4)), ("do (onward n)", None),
                            ("give (onward (onward (onward n)))", 6)):
            self.setUp()
            around = self.store.deed(deed("deed aro (n m=0) / " + text))
            self.put("around", around)
            if text == "give (onward)":
                self.fault("lacks", "n", self.keeps, self.store, self.call, 3)
            else:
                self.assertEqual(self.call(3), worth, text)

    def test_often(self):
        wrap = self.put("often", 2)
        self.assertEqual([self.call(3) for _ in range(4)], [4, 4, None, None])
        self.assertEqual(remembered(self.store, wrap), 0)
        self.assertEqual(self.stops(1), ([], None))
        self.put("often", 0)
        self.assertIsNone(self.call("no number", "too", "many"))

    def test_kept(self):
        wrap = self.put("kept")
        for _ in range(2):
            self.assertEqual(self.call(3), 4)
            self.assertEqual(self.call(3, m=1), 4)
            self.assertEqual(self.call(m=1, n=3), 4)
            self.assertEqual(self.call(n=3, m=1), 4)
            self.assertEqual(self.call(5), 6)
        self.assertEqual(remembered(self.store, wrap), [
            (self.thing, (3,), {}, 4), (self.thing, (3,), {"m": 1}, 4), (self.thing, (), {"m": 1, "n": 3}, 4),
            (self.thing, (5,), {}, 6)])
        self.assertEqual(self.stops(5), ([], 6))

    def test_kept_of_another_me(self):
        wrap = self.put("kept")
        other = self.store.plain(self.sub, rows={"own": 5})
        self.call(3)
        self.call(3, me=other)
        self.call(3, me=self.view())
        self.assertEqual([told[0] for told in remembered(self.store, wrap)],
                         [self.thing, other, ("thing", len(self.store) - 1)])

    def test_kept_tells_the_answer_as_it_was(self):
        self.has("g", "deed g (x) / give (get me 'own')")
        put_on(self.store, self.sub, "g", ("kept",))
        self.assertEqual(called(self.store, self.thing, "g", args=[1]), 1)
        self.store.put(self.thing, "own", 2)
        self.assertEqual(called(self.store, self.thing, "g", args=[1]), 1)
        self.assertEqual(called(self.store, self.thing, "g", args=[2]), 2)

    def test_kept_stands_without_rules_count_as_what_is_behind(self):
        self.has("g", "deed g (x y=0) / give (row me x y)")
        wrap = put_on(self.store, self.sub, "g", ("kept",))
        bare = self.stand(thing=self.stand())
        answer = called(self.store, bare, "g", args=[row(bare, row(1, bare))], named={"y": bare})
        self.assertEqual(answer, row(bare, row(bare, row(1, bare)), bare))
        self.assertEqual(remembered(self.store, wrap), [
            (self.thing, (row(self.thing, row(1, self.thing)),), {"y": self.thing}, answer)])
        told = called(self.store, self.thing, "g", args=[row(self.thing, row(1, bare))], named={"y": self.thing})
        self.assertEqual(told, answer)
        ruled = self.stand(("count", "q"))
        other = called(self.store, ruled, "g", args=[1])
        self.assertEqual(other, row(ruled, 1, 0))
        self.assertNotEqual(called(self.store, self.thing, "g", args=[1]), other)

    def test_of_several_equal_ones_kept_tells_the_first(self):
        self.has("f", "deed f (n) / let c (get me 'own') / set me 'own' (sub c 1) / if c / do (call me 'f' n) / end / "
                 "give c")
        wrap = self.put("kept")
        self.assertEqual(self.call(7), 1)
        self.assertEqual([told[3] for told in remembered(self.store, wrap)], [0, 1])
        self.assertEqual(self.call(7), 0)

    def test_a_fault_is_remembered_nowhere(self):
        wraps = [self.put("often", 3), self.put("kept"), self.put("often", 5)]
        self.call(3)
        self.fault("wrong", "a", self.keeps, self.store, self.call, "a")
        self.assertEqual([remembered(self.store, wrap) for wrap in wraps], [2, [(self.thing, (3,), {}, 4)], 4])
        self.has("try", "deed try () / do (call me 'f' 8) / do (call me 'f' 'a')")
        self.fault("wrong", "a", self.keeps, self.store, called, self.store, self.thing, "try")
        self.assertEqual([remembered(self.store, wrap) for wrap in wraps], [2, [(self.thing, (3,), {}, 4)], 4])

    def test_faults_of_what_is_called(self):
        bad = self.store.deed(deed("deed bad (n m=0) / give (add n 'bad')"))
        for word in ("before", "around"):
            wrap = self.put(word, bad)
            self.fault("wrong", "bad", self.keeps, self.store, self.call, 3)
            self.fault("lacks", "n", self.keeps, self.store, self.call)
            take_off(self.store, self.sub, "f", wrap)
        self.put("behind", self.store.deed(deed("deed bad (x) / give (add x 'bad')")))
        self.fault("wrong", "bad", self.keeps, self.store, self.call, 3)
        self.fault("strange", "q", self.keeps, self.store, self.call, 3, q=1)


class Onward(Calls):

    def test_elsewhere_it_is_wrong_at_once(self):
        for text in ("(onward 1)", "(onward (part 1 2))", "(onward x=(get 5 5))"):
            self.breaks("wrong", "onward", "give " + text)
            self.breaks("lacks", "q", "give (add q " + text + ")")
        self.store.put(self.sub, "g", self.aro)
        self.fault("wrong", "onward", called, self.store, self.thing, "g", args=[1])
        self.put("before", self.aro)
        self.fault("wrong", "onward", self.keeps, self.store, self.call, 1)

    def test_what_it_calls_has_none_and_a_deed_behind_has_none(self):
        self.put("behind", self.store.deed(deed("deed beh (x) / give (onward x)")))
        self.fault("wrong", "onward", self.keeps, self.store, self.call, 1)
        self.has("g", "deed g (n m=0) / give (onward n)")
        put_on(self.store, self.sub, "g", ("around", self.aro))
        self.fault("wrong", "onward", self.keeps, self.store, called, self.store, self.thing, "g", args=[1])

    def test_me_stays(self):
        self.has("f", "deed f (n m=0) / give (row me n m)")
        self.put("around", self.store.deed(deed("deed aro (n m=0) / give (onward 5 m=6)")))
        front = self.stand(("count", "f"))
        self.assertEqual(self.call(1, me=front), row(front, 5, 6))

    def test_args_go_as_they_are_told(self):
        self.has("f", "deed f (n m=0) / give (row n m)")
        for text, worth in (("(onward 1 2)", row(1, 2)), ("(onward m=1 n=2)", row(2, 1)), ("(onward n m=n)", row(8, 8))):
            wrap = self.put("around", self.store.deed(deed("deed aro (n m=0) / give " + text)))
            self.assertEqual(self.call(8), worth)
            take_off(self.store, self.sub, "f", wrap)
        self.put("around", self.store.deed(deed("deed aro (n m=0) / give (onward 1 n=2)")))
        self.fault("twice", "n", self.keeps, self.store, self.call, 8)
        self.put("around", self.store.deed(deed("deed aro (n m=0) / give (onward 1 2 3)")))
        self.fault("many", 3, self.keeps, self.store, self.call, 8)

    def test_frames_of_wraps(self):
        tells = "let f here / let c (look above f) / give 1"
        self.has("f", "deed f (n m=0) / " + tells)
        deeds = [self.store.deed(deed("deed " + word + " " + params + " / " + text)) for word, params, text in (
            ("bef", "(n m=0)", tells), ("beh", "(x)", tells),
            ("aro", "(n m=0)", "let f here / let c (look above f) / give (onward n)"))]
        for word, made in zip(("before", "behind", "around"), deeds):
            wrap = self.put(word, made)
            self.has("outer", "deed outer () / let own here / give (call me 'f' 1)")
            machine, seen = Machine(self.store, self.thing, "outer"), []
            while not machine.is_done():
                frames = machine.frames()
                if "c" in machine.names(frames[-1]):
                    seen.append((machine.title_of(frames[-1]), machine.names(frames[-1])["c"] == frames[-2],
                                 len(frames)))
                machine.step()
            self.assertEqual(seen, {"before": [("bef", True, 2), ("f", True, 2)],
                                    "behind": [("f", True, 2), ("beh", True, 2)],
                                    "around": [("aro", True, 2), ("f", True, 3)]}[word])
            take_off(self.store, self.sub, "f", wrap)
        self.put("before", deeds[0])
        machine = Machine(self.store, self.thing, "f", args=[1])
        self.assertEqual(self.ask(machine.frames()[0], "above"), None)


class Deep(Calls):

    def test_a_wrap_that_runs_no_deed_is_never_too_deep(self):
        self.has("go", "deed go (n) / if n / give (call me 'go' (sub n 1)) / else / give (call me 'f' 1) / end")
        often = self.put("often", 1)
        self.assertEqual(called(self.store, self.thing, "go", args=[10]), 2)
        self.assertIsNone(called(self.store, self.thing, "go", args=[11]))
        take_off(self.store, self.sub, "f", often)
        self.fault("deep", 12, self.keeps, self.store, called, self.store, self.thing, "go", args=[11])
        self.put("kept")
        self.fault("deep", 12, self.keeps, self.store, called, self.store, self.thing, "go", args=[11])
        self.call(1)
        self.assertEqual(called(self.store, self.thing, "go", args=[11]), 2)

    def test_before_and_behind_are_no_deeper_and_around_is(self):
        self.has("go", "deed go (n) / if n / give (call me 'go' (sub n 1)) / else / give (call me 'f' 1) / end")
        before, behind = self.put("before", self.bef), self.put("behind", self.beh)
        self.assertEqual(called(self.store, self.thing, "go", args=[10]), 2)
        take_off(self.store, self.sub, "f", before)
        take_off(self.store, self.sub, "f", behind)
        self.put("around", self.aro)
        self.fault("deep", 12, self.keeps, self.store, called, self.store, self.thing, "go", args=[10])
        self.assertEqual(called(self.store, self.thing, "go", args=[9]), 112)

    def test_deep_comes_ahead_of_matching_and_behind_what_is_wrong(self):
        self.has("go", "deed go (n) / if n / give (call me 'go' (sub n 1)) / else / give (call me 'f' q=1) / end")
        self.fault("deep", 12, called, self.store, self.thing, "go", args=[11])
        self.fault("strange", "q", called, self.store, self.thing, "go", args=[10])
        self.has("go", "deed go (n) / if n / give (call me 'go' (sub n 1)) / else / give (call me 'own') / end")
        self.fault("wrong", 1, called, self.store, self.thing, "go", args=[11])


# Ways for chance: of before, behind and around the deed hangs on the word.
WORDS = ("before", "behind", "around", "often", "kept")


class ByChance(Calls):
    """Wraps within wraps, against a telling of 103 that calls within itself."""

    def model(self, layers, n, depth, memory):
        """The stops and the answer of a call of f."""
        if not layers:
            return [(depth, "core")], n + 1
        word, inner = layers[0], layers[1:]
        key = (len(layers), n)
        if word == "before":
            stops, answer = self.model(inner, n, depth, memory)
            return [(depth, "bef")] * 2 + stops, answer
        if word == "behind":
            stops, answer = self.model(inner, n, depth, memory)
            return stops + [(depth, "beh")] * 2, answer
        if word == "around":
            stops, answer = self.model(inner, n + 10, depth + 1, memory)
            return [(depth, "aro")] + stops + [(depth, "aro")], None if answer is None else answer + 100
        if word == "often":
            left = memory.setdefault(len(layers), 2)
            memory[len(layers)] = max(left - 1, 0)
            return self.model(inner, n, depth, memory) if left else ([], None)
        if key not in memory:
            stops, answer = self.model(inner, n, depth, memory)
            memory[key] = answer
            return stops, answer
        return [], memory[key]

    def test_stops_and_answers(self):
        numbers = random.Random(3)
        for _ in range(150):
            self.setUp()
            layers = [numbers.choice(WORDS) for _ in range(numbers.randrange(6))]
            around_often = [at for at, word in enumerate(layers) if word == "around" and "often" in layers[at:]]
            if around_often:
                continue
            for word in layers[::-1]:
                self.put(word, *{"before": (self.bef,), "behind": (self.beh,), "around": (self.aro,), "often": (2,),
                                 "kept": ()}[word])
            memory = {}
            for _ in range(4):
                n = numbers.randrange(2)
                self.assertEqual(self.stops(n), self.model(layers, n, 1, memory), layers)

    def test_taken_off_in_any_order_what_stood_there_answers(self):
        for order in itertools.permutations(range(4)):
            self.setUp()
            plain = self.stops(3)
            wraps = [self.put("before", self.bef), self.put("kept"), self.put("around", self.aro), self.put("often", 9)]
            self.assertEqual(self.stops(3)[1], 114)
            for at in order:
                take_off(self.store, self.sub, "f", wraps[at])
            self.assertEqual((wraps_on(self.store, self.sub, "f"), self.stops(3)), ([], plain))

    def test_ways_that_change_no_answer(self):
        texts = ("give (add n m)", "give n", "let x n / while x / let x (sub x 1) / end / give (row x n)", "do n",
                 "if (less n m) / give (size (row n m)) / end / give (part (row n m) m)")
        for text in texts:
            store = Store()
            kind = store.kind("k")
            thing = store.plain(kind)
            store.put(kind, "f", store.deed(deed("deed f (n m=0) / " + text)))
            calls = [([n], {"m": m}) for n in (0, 1, 3) for m in (0, 1)] * 2
            plain = [self.answer(store, thing, call, run_plain) for call in calls]
            before = store.deed(deed("deed b (n m=0) / do n"))
            behind = store.deed(deed("deed b (x) / give 5"))
            for way in (("before", before), ("behind", behind), ("kept",), ("often", 99)) * 2:
                put_on(store, kind, "f", way)
                self.assertEqual([self.answer(store, thing, call, called) for call in calls], plain)

    def answer(self, store, thing, call, how):
        try:
            return how(store, thing, "f", args=call[0], named=call[1])
        except Fault as fault:
            return fault.why, fault.found

    def test_many_wraps_one_on_another(self):
        for at in range(180):
            self.put(*(("often", 99) if at < 150 else ("before", self.bef)))
        self.assertEqual(self.call(3), 4)
        self.assertEqual(self.call(3, me=self.stand()), 4)


if __name__ == "__main__":
    unittest.main()
