"""Promises 8 and 9, each line over more than one stage: what is told is what is done, and what is barred is barred."""

import itertools
import random
import re
import unittest

from checks import row
from deeds import deed
from house import House
from innerlook.asks import ask, deed_met
from innerlook.copies import copied, copied_deep, shown_rows
from innerlook.deedtext import deed_text, read_deed
from innerlook.desk import Desk
from innerlook.doings import done, done_all
from innerlook.errors import Barred, Fault, InnerError, Missing
from innerlook.fronts import led, shown, stand
from innerlook.machine import Machine, called
from innerlook.making import deed_made, exchanged, first_unlike, kind_made, kind_text, told_anew
from innerlook.pairs import parted
from innerlook.params import takes
from innerlook.plain import run_plain
from innerlook.store import Store
from innerlook.storetext import read_store, store_text
from innerlook.views import take_back, view
from innerlook.wraps import put_on, take_off
from programs import Programs
from test_fronts import rules_by_chance
from test_store import ALL

PARAMS = ("()", "(a)", "(a b=2)", "(a=1 b..)", "(b.. *a)", "(a *b)", "(*a *b=1)", "(a b c..)", "(a=1 b=2 *c)")
LOOKING = ("has", "names", "owner", "under", "params", "title", "copy", "deep", "kind", "stand", "narrow")


class WhatIsToldIsWhatIsDone(House):

    def test_each_listed_name_answers_and_no_other_one(self):
        numbers = random.Random(11)
        words = ("own", "b", "mid", "top", "add", "q", "z")
        for _ in range(60):
            front = self.thing
            for _ in range(numbers.randrange(4)):
                if numbers.random() < 0.4:
                    front = view(self.store, front, names=tuple(numbers.sample(words, 5)))
                else:
                    front = stand(self.store, front, rules_by_chance(numbers, words))
            told = ask(self.store, front, "names")[1]
            rows = shown_rows(self.store, front)
            for name in words:
                answers = True
                try:
                    worth = ask(self.store, front, "get", [name])
                except Fault:
                    answers = False
                self.assertEqual(name in told, answers)
                if name in rows:
                    self.assertEqual(rows[name], worth)
                if answers:
                    whose = ask(self.store, front, "owner", [name])
                    if whose != front:
                        self.assertEqual(ask(self.store, whose, "get", [led(self.store, front, name)[2]]), worth)
            if len(self.store) > 190:
                self.setUp()

    def test_told_rows_of_parameters_take_just_the_calls_that_go(self):
        for text in PARAMS:
            self.has("f", "deed f " + text + " / give 1")
            params = read_deed(ask(self.store, deed_met(self.store, self.thing, "f"), "text"))[1]
            told = ask(self.store, self.ask(self.thing, "get", "f"), "params")[1]
            self.assertEqual(told, tuple(param[1] for param in params))
            wrap = put_on(self.store, self.sub, "f", ("often", 99))
            self.assertEqual(ask(self.store, wrap, "params")[1], told)
            for many in range(5):
                for names in itertools.chain.from_iterable(itertools.combinations("abc", size) for size in range(4)):
                    self.assertEqual(takes(params, many, list(names)), self.goes(many, names), (text, many, names))

    def goes(self, many, names):
        try:
            return called(self.store, self.thing, "f", args=[0] * many, named={name: 0 for name in names}) == 1
        except Fault as fault:
            self.assertIn(fault.why, ("many", "strange", "twice", "lacks"))
            return False

    def test_a_told_text_read_does_the_same(self):
        for seed in range(40):
            programs = Programs(seed)
            store, thing = programs.store, programs.things[0]
            one = store.deed_of(deed_met(store, thing, "f"))
            other = read_deed(ask(store, deed_met(store, thing, "f"), "text"))
            calls = [([at], {}) for at in range(3)]
            self.assertIsNone(first_unlike(store, thing, one, other, calls))
            twin = store.twin()
            made = deed_made(twin, programs.kind, "f", deed_text(one))
            store.deed(one)
            self.assertEqual(self.end(twin, thing), self.end(store, thing))
            self.assertEqual(deed_met(twin, thing, "f"), made)

    def end(self, store, thing):
        try:
            return called(store, thing, "f", args=[1])
        except Fault as fault:
            return fault.why, fault.found

    def test_whose_a_deed_is_told_to_be_that_ones_is_met(self):
        for name in ("add", "open", "inner", "wrapped"):
            for thing in (self.thing, self.sub, self.stand(("as", "own", "top")), self.view(thing=self.stand())):
                if self.ask(thing, "has", name):
                    whose = self.ask(thing, "owner", name)
                    self.assertEqual(deed_met(self.store, whose, name), deed_met(self.store, thing, name))
                    base_rows = self.store.rows(whose) if self.store.sort_of(whose) in ("plain", "kind") else {}
                    self.assertTrue(name in base_rows or whose == thing)


class StandsWithoutRules(unittest.TestCase):

    def test_told_apart_by_the_told_looks_alone(self):
        together = 0
        for seed in range(120):
            programs = Programs(1000 + seed, looks=LOOKING)
            store = programs.store
            thing = store.plain(programs.kind, rows=store.rows(programs.things[1]))
            found = parted(store, thing, stand(store, stand(store, thing)), "f", args=[2])
            self.assertIsNone(found, seed)
            together += 1
        self.assertEqual(together, 120)


class DeedsAndKinds(House):

    def test_they_mean_what_they_were_made_of(self):
        kind = kind_made(self.store, self.box, kind_text(self.store, self.kind_of_deeds()))
        for text in ("deed f (n) / give (add n 1)", "deed g () / give me"):
            name = text[5]
            self.assertEqual(self.store.deed_of(self.store.met(kind, name)[1]), deed(text))
        thing = self.store.plain(kind, rows={"own": 1})
        self.assertEqual(called(self.store, thing, "f", args=[1]), 2)
        self.assertEqual(called(self.store, thing, "g"), thing)

    def kind_of_deeds(self):
        kind = self.store.kind("q", wants=("own",))
        self.has("f", "deed f (n) / give (add n 1)", kind)
        self.has("g", "deed g () / give me", kind)
        return kind

    def test_a_thing_whose_kind_is_put_otherwise_goes_on_with_its_own_worths_or_all_is_refused(self):
        kind = self.kind_of_deeds()
        rows = self.store.rows(self.thing)
        for change in (lambda: self.store.turn(self.thing, kind), lambda: exchanged(self.store, kind, self.sub),
                       lambda: told_anew(self.store, self.sub, wants=("own", "b")),
                       lambda: self.ask(self.thing, "turn", kind), lambda: self.store.put(kind, "own", 9)):
            change()
            self.assertEqual(self.store.rows(self.thing), rows)
        poor = self.store.kind("poor", wants=("q",))
        for change in (lambda: self.store.turn(self.thing, poor), lambda: exchanged(self.store, kind, poor),
                       lambda: told_anew(self.store, kind, wants=("q",)), lambda: self.ask(self.thing, "turn", poor),
                       lambda: done(self.store, ("exchange", kind, poor))):
            self.fault("wants", "q", self.keeps, self.store, change)


class Copies(House):

    def test_what_is_done_to_one_shows_in_the_other_nowhere_else(self):
        one = self.store.plain(self.sub, rows={"own": 1, "sh": self.thing})
        two = self.store.plain(self.sub, rows={"own": one, "ring": one, "sh": one})
        self.store.put(one, "ring", row(two, 5))
        for copy, pairs in (copied_deep(self.store, one), (copied(self.store, one), [])):
            rows = {number: self.store.rows(("thing", number)) for pair in pairs for number in pair}
            self.assertEqual(self.store.rows(copy)["sh"], self.thing)
            self.store.put(copy, "own", 77)
            self.ask(copy, "set", "new", 5)
            for number, told in rows.items():
                if ("thing", number) != copy:
                    self.assertEqual(self.store.rows(("thing", number)), told)
            self.assertEqual(self.ask(one, "get", "own"), 1)
            self.store.put(one, "own", 1)
            self.ask(self.store.rows(copy)["sh"], "set", "b", 9)
            self.assertEqual(self.ask(self.store.rows(one)["sh"], "get", "b"), 9)


class WhatAViewBars(House):
    """Each road to a name, or to a word, that a view doesn't let through."""

    def test_a_barred_name_by_every_road(self):
        self.store.put(self.thing, "secret", self.add)
        part = self.view("own", "inner", "copier", "spy", "call")
        roads = [part, self.stand(thing=part), self.view("own", "secret", thing=part),
                 self.view("own", "secret", thing=self.stand(thing=part)), self.ask(part, "stand"),
                 self.ask(part, "narrow", row("secret", "own"))]
        for thing in roads:
            for word, more in (("get", ()), ("has", ()), ("set", (1,)), ("drop", ()), ("owner", ())):
                self.asks("barred", "secret", thing, word, "secret", *more)
            self.fault("barred", "secret", deed_met, self.store, thing, "secret")
            self.fault("barred", "secret", called, self.store, thing, "secret", args=[1])
            self.fault("barred", "secret", Machine, self.store, thing, "secret", args=[1])
            self.breaks("barred", "secret", "give (get a 'secret')", thing)
            self.breaks("barred", "secret", "give (call a 'secret' 1)", thing)
            self.breaks("barred", "secret", "set a 'secret' 1", thing)
            self.assertNotIn("secret", self.ask(thing, "names")[1])
            self.assertNotIn("secret", shown(self.store, thing))
            self.assertNotIn("secret", shown_rows(self.store, thing))
            self.assertNotIn("secret", self.store.rows(self.ask(thing, "copy")))
            self.assertNotIn("secret", self.store.rows(self.ask(thing, "deep")))
            for copy in (copied(self.store, thing), copied_deep(self.store, thing)[0]):
                self.asks("lacks", "secret", copy, "get", "secret")
        renamed = self.stand(("as", "open", "secret"), thing=part)
        self.asks("barred", "secret", renamed, "get", "open")
        self.assertNotIn("open", self.ask(renamed, "names")[1])

    def test_a_program_that_runs_for_a_view_has_the_view_as_me(self):
        self.store.put(self.thing, "secret", 5)
        self.has("spy", "deed spy () / give (get me 'secret')")
        self.has("peek", "deed peek () / give (get (look within here) 'secret')")
        part = self.view("own", "spy", "peek")
        for name in ("spy", "peek"):
            self.fault("barred", "secret", self.keeps, self.store, called, self.store, part, name)
        put_on(self.store, self.sub, "spy", ("kept",))
        self.assertEqual(called(self.store, self.thing, "spy"), 5)
        self.fault("barred", "secret", self.keeps, self.store, called, self.store, part, "spy")

    def test_a_frame_behind_a_view(self):
        machine, outer, inner = self.two_frames()
        part = self.view("w", thing=inner)
        for thing in (part, self.stand(thing=part), self.view("w", "z", thing=part)):
            self.asks("barred", "z", thing, "get", "z")
            self.asks("barred", "z", thing, "set", "z", 1)
            self.assertEqual(self.ask(thing, "names"), row("w"))
        shut = self.view(thing=inner, asks=("names",))
        self.asks("barred", "within", shut, "within")
        self.asks("barred", "get", self.stand(thing=shut), "get", "z")

    def test_a_text_behind_a_view(self):
        for thing in (self.add, self.wrap):
            part = self.view(thing=thing, asks=("call", "params"))
            for front in (part, self.stand(thing=part), self.view(thing=part), self.stand(thing=self.view(thing=part))):
                self.asks("barred", "text", front, "text")
                self.assertEqual(self.ask(front, "params"), row("n", "by"))
                self.store.put(self.thing, "f", front)
                self.assertIn(called(self.store, self.thing, "f", args=[1]), (2, None))
            shut = self.view(thing=thing, asks=("text",))
            self.store.put(self.thing, "f", self.stand(thing=shut))
            self.fault("barred", "call", called, self.store, self.thing, "f", args=[1])

    def test_barred_words_by_every_front_before(self):
        words = ("get", "names", "copy", "kind", "sort", "stand", "narrow", "alike")
        with_things = {"get": ("own",), "narrow": (row(),), "alike": (1,)}
        for word in words:
            part = self.view(asks=tuple(other for other in words if other != word))
            for front in (part, self.stand(thing=part), self.view(thing=part), self.view(thing=part, asks=words)):
                self.asks("barred", word, front, word, *with_things.get(word, ()))
                for other in words:
                    if other != word and len(self.store) < 190:
                        self.ask(front, other, *with_things.get(other, ()))
            if len(self.store) > 150:
                self.setUp()

    def test_what_is_taken_back_fails_from_then_on(self):
        self.has("late", "deed late (v) / let own (get v 'own') / do (call me 'back') / give (get v 'own')")
        part = self.view("own")
        fronts = [part, self.stand(thing=part), self.view(thing=self.stand(thing=part))]
        for front in fronts:
            self.assertEqual(self.ask(front, "get", "own"), 1)
        machine = Machine(self.store, self.thing, "inner", args=[1])
        machine.run()
        self.assertIs(done(self.store, ("takeback", part)), True)
        for front in fronts:
            for word, more in (("get", ("own",)), ("names", ()), ("sort", ()), ("copy", ()), ("within", ()), ("stand", ())):
                self.asks("gone", front, front, word, *more)
            self.fault("gone", front, led, self.store, front, "own")
            self.fault("gone", front, copied, self.store, front)
            self.fault("gone", front, called, self.store, front, "own")
            self.breaks("gone", front, "give (get a 'own')", front)

    def test_a_kept_wrap_of_another_me_tells_nothing_of_what_is_barred(self):
        self.has("f", "deed f () / give (get me 'own')")
        put_on(self.store, self.sub, "f", ("kept",))
        self.assertEqual(called(self.store, self.thing, "f"), 1)
        part = self.view("f", "b")
        self.fault("barred", "own", called, self.store, part, "f")


class Wrappers(House):

    def test_nothing_changes_but_what_they_say_in_whatever_order(self):
        bef = self.store.deed(deed("deed bef (n *by=1) / do n"))
        beh = self.store.deed(deed("deed beh (x) / do x"))
        ways = (("before", bef), ("behind", beh), ("often", 50), ("kept",))
        plain = [called(self.store, self.thing, "add", args=[n]) for n in range(3)]
        before = self.store.twin()
        for order in itertools.permutations(range(4)):
            wraps = [put_on(self.store, self.sub, "add", ways[at]) for at in order]
            self.assertEqual([called(self.store, self.thing, "add", args=[n]) for n in range(3)] * 2, plain * 2)
            for at in order:
                take_off(self.store, self.sub, "add", wraps[at])
            self.assertEqual(self.store.rows(self.sub), before.rows(self.sub))
            self.store.lay(before)


class FaultsLeaveAll(unittest.TestCase):

    def test_calls_by_chance(self):
        faults = 0
        for seed in range(150):
            programs = Programs(seed, looks=LOOKING)
            store, thing = programs.store, programs.things[0]
            front = stand(store, thing, (("count", "f"), ("count", "own")))
            kept = put_on(store, programs.kind, "f", ("kept",))
            put_on(store, programs.kind, "g", ("often", 2))
            before = store.twin()
            try:
                called(store, front, "f", args=["no number"] if seed % 2 else [front])
            except Fault:
                faults += 1
                self.assertTrue(store == before, seed)
            self.assertEqual(store.sort_of(kept), "wrap")
        self.assertGreater(faults, 30)

    def test_doings_by_chance(self):
        numbers = random.Random(8)
        programs = Programs(5)
        store = programs.store
        for _ in range(400):
            some = [("thing", numbers.randrange(len(store) + 1)) for _ in range(2)]
            name = numbers.choice(("own", "f", "next", "q"))
            doing = numbers.choice((
                ("plain", some[0], {"own": some[1]}), ("stand", some[0], (("give", "own", some[1]), ("count", "f"))),
                ("view", some[0], (name,), None), ("ask", some[0], "set", (name, some[1])), ("takeback", some[0]),
                ("ask", some[0], "drop", (name,)), ("ask", some[0], "turn", (some[1],)), ("exchange", some[0], some[1]),
                ("call", some[0], "f", (1,), {}), ("wrap", some[0], name, ("kept",)), ("ask", some[0], "deep", ()),
                ("wrap", some[0], name, ("before", some[1])), ("unwrap", some[0], name, some[1]),
                ("anew", some[0], (name,), None)))
            before = store.twin()
            try:
                done(store, doing)
            except (Fault, InnerError, Missing, Barred):
                self.assertTrue(store == before, doing)
            self.assertTrue(len(store) >= len(before))
            if len(store) > 150:
                store.lay(Programs(numbers.randrange(100)).store)

    def test_what_is_written_is_read_as_the_same_and_does_the_same(self):
        for seed in range(60):
            programs = Programs(seed, looks=LOOKING)
            store, thing = programs.store, programs.things[0]
            stand(store, thing, (("as", "q", "own"),))
            put_on(store, programs.kind, "g", ("kept",))
            read = read_store(store_text(store))
            self.assertTrue(read == store)
            self.assertEqual(self.end(read, thing), self.end(store, thing))
            self.assertTrue(read == store)

    def end(self, store, thing):
        try:
            return called(store, thing, "f", args=[2])
        except Fault as fault:
            return fault.why, fault.found

    def test_who_does_not_look_within_runs_as_the_plain_runner_does(self):
        for seed in range(400, 500):
            programs = Programs(seed)
            store, twin = programs.store, programs.store.twin()
            ends = []
            for run, where in ((called, store), (run_plain, twin)):
                try:
                    ends.append(run(where, programs.things[1], "f", args=[3]))
                except Fault as fault:
                    ends.append((fault.why, fault.found))
            self.assertEqual(ends[0], ends[1])
            self.assertTrue(store == twin)


SCRIPT = """make kind box #0
make plain #4 own=1 next=#4 sum='own'
deed add (n by=1 *more=0) / let sum (add n by) / set me 'sum' sum / give (row sum (look names here) (look title here))
ask set #4 'add' #6
call #5 add 4 more=2
call #5 add by=2
call #5 add 1 n=2
call #5 add n=4 odd=1
wrap #4 add kept
call #5 add 4
make stand #5 as:other:own hide:own give:gift:7 count:add bar:next
names #8
ask get #8 'other'
ask get #8 'own'
ask get #8 'next'
ask set #8 'gift' 1
ask owner #8 'add'
ask names #8
make view #8 other add
names #9
ask get #9 'gift'
ask copy #9
names #10
ask params #6
text #6
ask title #4
ask made #4 'box'
start #8 add 5
frames
step
set #11 sum 40
set #12 sum 40
frames
run
names #12
unwrap #4 add #7
exchange #5 #10
store"""
NAMES = {"add": "bb", "box": "bxx", "by": "byy", "gift": "gg", "more": "mm", "n": "nnn", "next": "no", "odd": "od",
         "other": "oo", "own": "ow", "sum": "sz"}


class OtherNames(unittest.TestCase):
    """Promise 9."""

    def test_the_names_are_in_the_same_order(self):
        self.assertEqual(sorted(NAMES), list(NAMES))
        self.assertEqual(sorted(NAMES.values()), list(NAMES.values()))

    def renamed(self, text):
        """A text with the names called otherwise, but for the words of lines, deeds and asks."""
        words = []
        for part in re.split(r"([a-z]+)", text):
            words.append(NAMES.get(part, part))
        return "".join(words)

    def test_a_desk_with_other_names(self):
        one, other = Desk(), Desk()
        for line in SCRIPT.split("\n"):
            # `add` is a word of expressions, too.
            new = self.renamed(line).replace("(bb nnn byy)", "(add nnn byy)")
            told = [self.end(one, line), self.end(other, new)]
            self.assertEqual(self.renamed(told[0]).replace("(bb nnn byy)", "(add nnn byy)"), told[1], line)

    def end(self, desk, line):
        try:
            return "|".join(desk.say(line))
        except (Fault, InnerError, Missing, Barred) as error:
            fields = {name: worth for name, worth in vars(error).items() if name in ("why", "found", "at")}
            return error.__class__.__name__ + " " + str(fields)


class Twins(House):
    """Promise 6, over the stages: a twin goes its own way by whatever is done."""

    def test_doings_on_a_twin_leave_the_store(self):
        machine, outer, inner = self.two_frames()
        front = self.stand(("count", "own"))
        kept = put_on(self.store, self.sub, "add", ("kept",))
        before = self.store.twin()
        for doing in (("ask", front, "get", ("own",)), ("call", front, "add", (1,), {}), ("ask", inner, "set", ("z", 9)),
                      ("takeback", self.view()), ("exchange", self.add, self.open), ("unwrap", self.sub, "add", kept),
                      ("anew", self.sub, (), ("q",)), ("ask", self.thing, "set", ("own", 9))):
            twin = self.store.twin()
            before = self.store.twin()
            told = done_all(twin, [doing])
            self.assertEqual(told[0][0], "told", doing)
            self.assertFalse(twin == self.store)
            self.assertTrue(self.store == before, doing)
        self.assertEqual(machine.run(), 9)

    def test_stores_are_unlike_things_of_other_kinds(self):
        for thing in (None, 0, "", [], {}, self.store.things, len(self.store)):
            self.assertFalse(self.store == thing)
        self.assertFalse(Store() == self.store)
        self.assertEqual(ALL, ("thing", 0))


if __name__ == "__main__":
    unittest.main()
