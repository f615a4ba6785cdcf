"""Promise 142: each line of a desk and its answer, what is no line, and what is barred while a Machine runs."""

import unittest

from checks import STRANGE_THINGS, Checks, names, row
from deeds import deed
from innerlook.asks import ask
from innerlook.desk import Desk
from innerlook.errors import Ended, Fault, NoAsk, NoKind, NoLine, NoList, NoRows, NoRules, NotThere, NoThing, NoWorth, Unfit
from innerlook.fronts import rules_of, stand
from innerlook.machine import called
from innerlook.storetext import read_store, store_text
from innerlook.store import Store
from innerlook.views import is_gone, view_of
from innerlook.wraps import remembered, way_of
from test_store import ALL

BOX, THING, ADD, OPEN = ("thing", 4), ("thing", 5), ("thing", 6), ("thing", 7)


class Desks(Checks, unittest.TestCase):
    """A box, a thing of it with a row own, a deed add in its row add, and a deed open in the row open of the box."""

    def setUp(self):
        self.desk = Desk()
        for line in ("make kind box #0", "make plain #4 own=1", "deed add (n *by=1) / let x n / give (add x by)",
                     "deed open (n) / let y (call me 'add' n) / give y", "ask set #5 'add' #6", "ask set #4 'open' #7"):
            self.desk.say(line)

    def says(self, line, *answer):
        told = self.desk.say(line)
        self.assertIs(told.__class__, list)
        self.assertEqual(told, list(answer), line)

    def keeps_desk(self, error, line, **fields):
        """A line is refused, and leaves all as it was."""
        before, running = self.desk.store(), self.desk.is_running()
        with self.assertRaises(error) as caught:
            self.desk.say(line)
        self.assertIs(caught.exception.__class__, error, line)
        self.assertEqual(vars(caught.exception), fields, line)
        self.assertTrue(self.desk.store() == before, line)
        self.assertIs(self.desk.is_running(), running)

    def no_line(self, line):
        self.keeps_desk(NoLine, line, found=line)

    def faults(self, why, found, line):
        self.keeps_desk(Fault, line, why=why, found=found)

    def ended(self, found, line):
        self.keeps_desk(Ended, line, found=found)


class Making(Desks):

    def test_a_new_desk(self):
        desk = Desk()
        self.assertTrue(desk.store() == Store())
        self.assertIs(desk.is_running(), False)
        self.assertEqual(desk.say("store"), [])
        self.assertEqual(desk.say(line="make plain #0"), ["#4"])

    def test_plain_things(self):
        self.says("make plain #4", "#8")
        self.says("make plain #0 a=1 b='x = y' c=[#5 none] nonesuch=-3 make=none", "#9")
        self.assertEqual(list(self.desk.store().rows(("thing", 9)).items()), [
            ("a", 1), ("b", "x = y"), ("c", row(THING, None)), ("nonesuch", -3), ("make", None)])
        self.keeps_desk(NoKind, "make plain #5", found=THING)
        self.keeps_desk(NoKind, "make plain #1", found=("thing", 1))
        self.keeps_desk(NoKind, "make plain #99", found=("thing", 99))
        self.keeps_desk(NoRows, "make plain #0 a=#99", found={"a": ("thing", 99)})
        self.assertRaises(NoRows, self.desk.say, "make plain #0 " + " ".join(name + "=1" for name in names(31)))
        self.says("make plain #0 " + " ".join(name + "=1" for name in names(30)), "#10")

    def test_kinds(self):
        self.says("make kind low #4", "#8")
        self.assertEqual(self.desk.store().above(("thing", 8)), BOX)
        self.says("make kind kind #0", "#9")
        self.keeps_desk(NoKind, "make kind a #5", found=THING)
        self.keeps_desk(NoKind, "make kind a #2", found=("thing", 2))

    def test_stands(self):
        self.says("make stand #5", "#8")
        self.says("make stand #8 hide:a bar:b as:c:own give:d:'a b:c d' count:a give:e:[1 [#5]]", "#9")
        self.assertEqual(rules_of(self.desk.store(), ("thing", 9)), (
            ("hide", "a"), ("bar", "b"), ("as", "c", "own"), ("give", "d", "a b:c d"), ("count", "a"),
            ("give", "e", row(1, row(THING)))))
        self.keeps_desk(NoThing, "make stand #99 hide:a", found=("thing", 99))
        self.keeps_desk(NoRules, "make stand #5 hide:a bar:a", found=(("hide", "a"), ("bar", "a")))
        self.keeps_desk(NoRules, "make stand #5 give:a:#99", found=(("give", "a", ("thing", 99)),))

    def test_views(self):
        self.says("make view #5 own add", "#8")
        self.says("make view #8", "#9")
        self.assertEqual(view_of(self.desk.store(), ("thing", 8)), (THING, ("own", "add"), None, False))
        self.assertEqual(view_of(self.desk.store(), ("thing", 9)), (("thing", 8), (), None, False))
        self.keeps_desk(NoList, "make view #5 a a", found=("a", "a"))
        self.keeps_desk(NoList, "make view #5 " + " ".join(names(21)), found=tuple(names(21)))
        self.keeps_desk(NoThing, "make view #99 a a", found=("thing", 99))

    def test_deeds(self):
        for line, text in (("deed a ()", "deed a ()"), ("deed a (n) / give n", "deed a (n) / give n"),
                           ("deed a (n m=1)  /  if n /   / do 1 / else / do 2 / end / ", "deed a (n m=1) / if n / do 1 / else"
                            " / do 2 / end"), ("deed deed () / do 1", "deed deed () / do 1"),
                           ("deed a () /  /  / do 1", "deed a () / do 1")):
            made = self.desk.say(line)
            number = len(self.desk.store()) - 1
            self.assertEqual(made, ["#" + str(number)])
            self.assertEqual(self.desk.store().deed_of(("thing", number)), deed(text))
        self.says("deed a (n='p / q') / give 'a / b'  / let x (row ' / ' '/') / give ' /'", "#13")
        self.assertEqual(self.desk.store().deed_of(("thing", 13)), (
            "a", (("or", "n", "p / q"),), (("give", ("lit", "a / b")), ("let", "x", (
                "row", (("lit", " / "), ("lit", "/")))), ("give", ("lit", " /")))))
        for line in ("deed", "deed ", "deed a", "deed a (", "deed a () / x", "deed a () / if 1", "deed a () /give 1",
                     "deed a ()/ give 1", "deed a () / / give 1", "deed a () / give 'a", "deed a () / give 1 / end",
                     "deed deed a ()", "make deed a ()", "deed A ()", "deed a () / give 'a / give 1'b"):
            self.no_line(line)

    def test_wraps(self):
        self.says("wrap #5 add kept", "#8")
        self.says("wrap #5 add often:2", "#9")
        self.says("wrap #5 add around:#6", "#10")
        self.assertEqual(way_of(self.desk.store(), ("thing", 10)), ("around", ADD))
        self.says("unwrap #5 add #10")
        self.says("call #5 add 1", "2")
        self.assertEqual(remembered(self.desk.store(), ("thing", 9)), 1)
        self.says("unwrap #5 add #8")
        self.says("unwrap #5 add #9")
        self.keeps_desk(NotThere, "unwrap #5 add #9", found=("thing", 9))
        self.keeps_desk(NotThere, "wrap #5 own kept", found="own")
        self.keeps_desk(Unfit, "wrap #5 add before:#7", found=OPEN)
        self.keeps_desk(NoThing, "wrap #5 add before:#99", found=("thing", 99))
        self.faults("barred", ALL, "wrap #0 a kept")


class Asking(Desks):

    def test_asks(self):
        for line, answer in (("ask get #5 'own'", "1"), ("ask has #5 'q'", "0"), ("ask set #5 'q' [1 #5 'a b']", "none"),
                             ("ask get #5 'q'", "[1 #5 'a b']"), ("ask kind #5", "#4"), ("ask sort #5", "'plain'"),
                             ("ask names #5", "['own' 'add' 'q' 'open']"), ("ask alike #5 -5", "0"),
                             ("ask stand #5", "#8"), ("ask drop #5 'q'", "none"), ("ask above #0", "none")):
            self.says(line, answer)
        self.says("ask new #4 own=5 b=#5", "#9")
        self.says("ask new #0", "#10")
        self.assertEqual(self.desk.store().rows(("thing", 9)), {"own": 5, "b": THING})
        self.faults("lacks", "q", "ask get #5 'q'")
        self.faults("wrong", 5, "ask get #5 5")
        self.keeps_desk(NoAsk, "ask add #5 1", found="add")
        self.keeps_desk(NoAsk, "ask call #5 'add'", found="call")
        self.keeps_desk(NoList, "ask get #5", found=())
        self.keeps_desk(NoList, "ask names #5 1", found=(1,))
        self.keeps_desk(NoList, "ask text #6 1", found=(1,))
        self.keeps_desk(NoWorth, "ask get #5 #99", found=("thing", 99))
        self.keeps_desk(NoThing, "ask add #99 1", found=("thing", 99))
        self.keeps_desk(NoRows, "ask new #4 a=#99", found={"a": ("thing", 99)})

    def test_names_and_texts(self):
        self.says("names #5", "own", "add", "open")
        self.says("names #6")
        self.says("text #6", "deed add (n *by=1)", "let x n", "give (add x by)")
        self.says("ask text #6", "deed add (n *by=1)", "let x n", "give (add x by)")
        self.says("make stand #5 hide:own give:z:1", "#8")
        self.says("names #8", "add", "open", "z")
        self.faults("wrong", THING, "text #5")
        self.faults("wrong", THING, "ask text #5")
        self.says("make view #5", "#9")
        self.says("names #9")
        self.says("takeback #9", "yes")
        self.faults("gone", ("thing", 9), "names #9")
        self.keeps_desk(NoThing, "names #99", found=("thing", 99))
        self.keeps_desk(NoThing, "text #99", found=("thing", 99))

    def test_calls(self):
        for line, answer in (("call #5 add 1", "2"), ("call #5 add 1 by=5", "6"), ("call #5 add n=1 by=-1", "0"),
                             ("call #5 open 7", "8")):
            self.says(line, answer)
        self.faults("lacks", "n", "call #5 add")
        self.faults("many", 2, "call #5 add 1 2")
        self.faults("strange", "q", "call #5 add 1 q=1")
        self.faults("lacks", "q", "call #5 q 1")
        self.faults("wrong", 1, "call #5 own")
        self.keeps_desk(NoList, "call #5 add" + " 1" * 21, found=(1,) * 21)
        self.keeps_desk(NoList, "call #5 q #99", found=(("thing", 99),))
        self.says("deed w (x y *nonesuch) / give (row x y nonesuch)", "#8")
        self.says("ask set #5 'w' #8", "none")
        self.says("call #5 w none 'x=1' nonesuch=[none 1]", "[none 'x=1' [none 1]]")
        self.says("call #5 w nonesuch=1 y=2 x=3", "[3 2 1]")

    def test_counts_by_asks(self):
        self.says("make stand #5 count:own", "#8")
        self.says("ask get #8 'own'", "1")
        self.says("ask has #8 'own'", "1")
        self.assertEqual(self.desk.store().record(("thing", 8)).counts, {"own": 2})

    def test_take_back_and_exchange(self):
        self.says("make view #5 own", "#8")
        self.says("takeback #8", "yes")
        self.says("takeback #8", "no")
        self.assertIs(is_gone(self.desk.store(), ("thing", 8)), True)
        self.faults("wrong", THING, "takeback #5")
        self.says("make plain #0 a=#5 b=[#5]", "#9")
        self.says("exchange #5 #9", "2")
        self.says("exchange #9 #9", "0")
        self.faults("wrong", BOX, "exchange #5 #4")
        self.faults("barred", ALL, "exchange #4 #0")
        self.keeps_desk(NoThing, "exchange #5 #99", found=("thing", 99))

    def test_the_text_of_the_store(self):
        self.says("store", *store_text(self.desk.store()).split("\n"))
        self.assertEqual(self.desk.say("store")[:3], ["kind box #0", "row open #7", "plain #4"])
        self.assertTrue(read_store("\n".join(self.desk.say("store"))) == self.desk.store())

    def test_the_store_is_told_as_a_twin(self):
        one = self.desk.store()
        one.put(THING, "own", 5)
        self.says("ask get #5 'own'", "1")
        self.assertFalse(one == self.desk.store())
        self.assertTrue(self.desk.store() == self.desk.store())

    def test_desks_have_nothing_in_common(self):
        other = Desk()
        other.say("make kind a #0")
        self.assertEqual(len(self.desk.store()), 8)
        self.assertEqual(len(other.store()), 5)


class NoLines(Desks):

    def test_what_is_no_line(self):
        for line in ("", " ", "x", "make", "make ", "make plain", "make plain ", "make plain #", "make plain 4",
                     "make plain #4 ", " make plain #4", "make  plain #4", "make plain  #4", "make plain #4  a=1",
                     "make plain #4 a", "make plain #4 1", "make plain #4 a=1 a=2", "make plain #4 a=1 b", "make plain #4 A=1",
                     "make plain #4 me=1", "make plain #4 a= 1", "make plain #4 a=01", "make plain #04", "make plain #1000",
                     "make plain #4 a=1 ", "make plain #4\n", "make kind", "make kind #0", "make kind a", "make kind a #0 #0",
                     "make kind A #0", "make kind none #0", "make kind a #0 b=1", "make stand", "make stand #5 hide",
                     "make stand #5 hide:a  bar:b", "make stand #5 hide:A", "make stand #5 a", "make stand #5 as:a",
                     "make stand #5 hide:a ", "make stand #5 give:a", "make stand #5 give:a:b", "make stand #5 hide:a,bar:b",
                     "make view", "make view #5 A", "make view #5 a=1", "make view #5 a  b", "make view #5 none",
                     "make view #5 1", "make wrap #5", "wrap", "wrap #5", "wrap #5 add", "wrap #5 add kept:", "wrap #5 add x",
                     "wrap #5 add often", "wrap #5 add often:100", "wrap #5 add before:6", "wrap #5 kept", "wrap #5 add kept ",
                     "wrap #5 add kept kept", "wrap #5 'add' kept", "ask", "ask get", "ask get #5 own", "ask get #5  'own'",
                     "ask get #5 'own' ", "ask get 5 'own'", "ask Get #5 'own'", "ask me #5", "ask none #5", "ask 'get' #5",
                     "ask get #5 a=1", "ask #5 get", "ask new", "ask new #4 1", "ask new #4 a=1 a=1", "ask new #4 [1]",
                     "ask abcdefghi #5", "ask get #5 'a", "call", "call #5", "call #5 'add'", "call #5 add a", "call #5 add a=1 1",
                     "call #5 add 1 n=1 n=2", "call #5 add  1", "call #5 add 1 ", "call #5 me", "call #5 add none=1",
                     "call 5 add", "call #5 add 1,2", "call #5 add [1", "unwrap", "unwrap #5 add", "unwrap #5 add 8",
                     "unwrap #5 add #8 #9", "takeback", "takeback 8", "takeback #8 ", "exchange", "exchange #5",
                     "exchange #5 #6 #7", "exchange 5 6", "start", "start #5", "start #5 add a", "start #5 add n=1 n=1", "step ",
                     "step 1", "off ", "off #5", "run ", "run 1", "frames ", "frames #5", "set", "set #5", "set #5 x",
                     "set #5 x y", "set #5 x 1 2", "set #5 x=1", "set #5 'x' 1", "set #5 none 1", "names", "names #5 #6",
                     "names 5", "names #5 ", "text", "text 6", "text #6 1", "store ", "store #5", "Step", "STORE", "stepp",
                     "make plain#4", "deedx a ()", "call#5 add 1", "take back #8"):
            self.no_line(line)

    def test_things_are_written_as_things(self):
        for line in ("make plain X", "make plain X a=1", "make kind a X", "make stand X", "make view X a", "wrap X add kept",
                     "unwrap X add #8", "unwrap #5 add X", "ask get X 'own'", "ask new X", "call X add 1", "takeback X",
                     "start X add 1", "exchange X #5", "exchange #5 X", "set X n 1", "names X", "text X"):
            for other in ("5", "none", "'a'", "[#5]", "a", "#", "#x", "#5x", "#05"):
                self.no_line(line.replace("X", other))

    def test_signs_between_names_and_worths(self):
        for line in ("make plain #4 a:1", "ask new #4 a:1", "call #5 add n:1", "make stand #5 give:a=1",
                     "make stand #5 as:a=b"):
            self.no_line(line)

    def test_what_is_no_text(self):
        for line in STRANGE_THINGS + (None, 5, b"step", Store(), ["step"], ("step",)):
            with self.assertRaises(NoLine) as caught:
                self.desk.say(line)
            self.assertIs(caught.exception.found, line)


class Running(Desks):

    def test_a_machine_from_its_start_to_its_end(self):
        self.says("start #5 open 4")
        self.assertIs(self.desk.is_running(), True)
        self.says("frames", "#8 open 0 n=4")
        self.says("step")
        self.says("frames", "#8 open 0 n=4", "#9 add 0 by=1 n=4")
        self.says("set #9 n 10")
        self.says("step")
        self.says("frames", "#8 open 0 n=4", "#9 add 1 by=1 n=10 x=10")
        self.says("names #9", "by", "n", "x")
        self.says("text #6", "deed add (n *by=1)", "let x n", "give (add x by)")
        self.says("run", "11")
        self.assertIs(self.desk.is_running(), False)
        self.says("frames")
        self.faults("gone", ("thing", 9), "names #9")
        self.keeps_desk(Unfit, "store", found=("thing", 8))

    def test_places_and_worths_of_frames(self):
        self.says("deed g (n) / while n / if 0 / else / do 1 / let n 0 / end / end / give n", "#8")
        self.says("ask set #5 'g' #8", "none")
        self.says("start #5 g 3")
        for line in ("0", "0.0.0", "0.0.0.1.0"):
            self.says("frames", "#9 g " + line + " n=3")
            self.says("step")
        self.says("set #9 n [none 'a b' #5]")
        self.says("frames", "#9 g 0.0.0.1.1 n=[none 'a b' #5]")
        self.says("run", "0")
        self.says("deed h () / do 1", "#10")
        self.says("ask set #5 'h' #10", "none")
        self.says("start #5 h")
        self.says("frames", "#11 h 0")
        self.says("step")
        self.assertIs(self.desk.is_running(), False)

    def test_called_off(self):
        before = self.desk.store()
        self.says("start #5 open 4")
        self.says("step")
        self.says("frames", "#8 open 0 n=4", "#9 add 0 by=1 n=4")
        self.says("off")
        self.assertTrue(self.desk.store() == before)
        self.ended("done", "off")

    def test_barred_while_it_runs(self):
        self.says("start #5 open 4")
        for line in ("make plain #4", "make kind a #0", "make stand #5", "make view #5", "deed a ()", "wrap #5 add kept",
                     "ask get #5 'own'", "ask text #6", "ask new #4", "call #5 add 1", "unwrap #5 add #9", "takeback #9",
                     "exchange #5 #5", "start #5 open 4", "store", "call #99 add", "ask nothing #5", "make plain #99"):
            self.ended("running", line)
        for line in ("x", "make plain", "ask", "step 1", "deed a () / x", "call #5 add 1 ", "make plain #4 a=1 a=1"):
            self.no_line(line)
        self.says("run", "5")

    def test_barred_without_one(self):
        for _ in range(2):
            for line in ("step", "run", "off", "set #9 x 1", "set #999 x #999"):
                self.ended("done", line)
            self.no_line("set #9 x")
            self.no_line("step ")
            self.says("frames")
            self.says("start #5 add 1")
            self.says("run", "2")

    def test_set_is_refused(self):
        self.says("start #5 open 4")
        self.says("frames", "#8 open 0 n=4")
        self.keeps_desk(NotThere, "set #5 n 1", found=THING)
        self.keeps_desk(NotThere, "set #99 n 1", found=("thing", 99))
        self.keeps_desk(NoWorth, "set #8 n #99", found=("thing", 99))
        self.faults("lacks", "q", "set #8 q 1")
        self.says("off")

    def test_a_fault_of_a_step_or_run_lays_all_back(self):
        for line in ("step", "run"):
            before = self.desk.store()
            self.says("start #5 add 'a'")
            self.says("frames", "#8 add 0 by=1 n='a'")
            self.says("step")
            with self.assertRaises(Fault) as caught:
                self.desk.say(line)
            self.assertEqual((caught.exception.why, caught.exception.found), ("wrong", "a"))
            self.assertTrue(self.desk.store() == before)
            self.assertIs(self.desk.is_running(), False)
            self.ended("done", "step")

    def test_starts_that_are_refused_or_done_at_once(self):
        self.faults("lacks", "q", "start #5 q")
        self.faults("lacks", "n", "start #5 add")
        self.keeps_desk(NoThing, "start #99 add", found=("thing", 99))
        self.says("deed e ()", "#8")
        self.says("ask set #5 'e' #8", "none")
        self.says("start #5 e")
        self.assertIs(self.desk.is_running(), False)
        self.ended("done", "run")

    def test_frames_when_the_store_is_full(self):
        for _ in range(191):
            self.desk.say("make plain #0")
        self.says("start #5 open 4")
        self.says("step")
        self.faults("full", 200, "frames")
        self.says("run", "5")

    def test_many_names(self):
        self.says("make plain #0 " + " ".join(name + "=1" for name in names(30)), "#8")
        self.says("names #8", *names(30))
        self.says("ask set #8 'more' 1", "none")
        self.faults("many", 31, "names #8")


class AgainstTheStages(Desks):

    def test_the_same_is_done_by_lines_and_by_functions(self):
        store = self.desk.store()
        self.says("make stand #5 count:own", "#8")
        stand(store, THING, (("count", "own"),))
        for word, things in (("get", ("own",)), ("set", ("b", row(1))), ("copy", ()), ("kind", ())):
            line = " ".join(["ask", word, "#8"] + ["'own'" if thing == "own" else "'b'" if thing == "b" else "[1]"
                                                   for thing in things])
            self.desk.say(line)
            ask(store, ("thing", 8), word, things)
        self.desk.say("call #8 open 4")
        called(store, ("thing", 8), "open", args=[4])
        self.assertTrue(self.desk.store() == store)


if __name__ == "__main__":
    unittest.main()
