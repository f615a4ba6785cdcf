"""Promises 51 to 53: the plain runner, its statements and expressions, and each of its faults."""

import unittest

from checks import STRANGE_THINGS, Checks, nested, row
from deeds import EACH_EXPRESSION, ONE, Chance, deed, shells
from innerlook.errors import Fault, NoDeed, NoList, NoName, NoRows, NoStore, NoThing
from innerlook.plain import rows_plain, run_deed, run_plain
from innerlook.store import Store
from innerlook.trees import LOOKS, is_deed
from test_store import ALL, DEEDS, FRAMES, KINDS, NO_NAMES, NO_THINGS
from test_storenames import Odd

BIG = 10 ** 9


class Run(Checks, unittest.TestCase):
    """A Store of a kind with deeds, a thing of it, and runs of expressions for it."""

    def setUp(self):
        self.store = store = Store()
        self.kind = store.kind("box", rows={"word": "of the kind", "num": 7})
        self.thing = store.plain(self.kind, rows={"own": 5, "list": row(1, "b", None), "itself": 0})
        store.put(self.thing, "itself", self.thing)
        self.other = store.plain(ALL, rows={"own": 6})
        self.others = {sort: store.added(Odd(sort)) for sort in ("wrap", "frame", "stand", "view")}

    def gives(self, worth, text, **named):
        """The expression gives the worth, names having these worths."""
        told = run_deed(self.store, self.thing, self.giving(text, named), named=named)
        self.assertEqual(told, worth)
        self.assertIs(told.__class__, worth.__class__)

    def giving(self, text, named=()):
        params = " ".join("*" + name for name in named)
        return deed("deed try (" + params + ") / give " + text)

    def faults(self, why, found, text, **named):
        self.fault(why, found, self.keeps, self.store, run_deed, self.store, self.thing, self.giving(text, named),
                   named=named)

    def does(self, text, **named):
        """The answer of a deed of these rows, names having these worths."""
        params = " ".join("*" + name for name in named)
        return run_deed(self.store, self.thing, deed("deed try (" + params + ") / " + text), named=named)

    def breaks(self, why, found, text, **named):
        self.fault(why, found, self.keeps, self.store, self.does, text, **named)

    def has(self, name, text, thing=None):
        """Put a deed of these rows into a row."""
        made = self.store.deed(deed(text))
        self.store.put(self.kind if thing is None else thing, name, made)
        return made


class Expressions(Run):

    def test_lits_names_and_me(self):
        for text, worth in (("0", 0), ("-7", -7), ("'a b'", "a b"), ("none", None), ("me", self.thing)):
            self.gives(worth, text)
        for worth in (1, None, "", self.other, row(self.other, 1), self.others["stand"]):
            self.gives(worth, "x", x=worth)
        self.faults("lacks", "y", "y", x=1)
        self.faults("lacks", "x", "x")

    def test_numbers(self):
        self.gives(5, "(add 2 3)")
        self.gives(-1, "(sub 2 3)")
        self.gives(1, "(less 2 3)")
        self.gives(0, "(less 3 3)")
        self.gives(BIG, "(add 999999999 1)")
        self.gives(-BIG, "(sub -999999999 1)")
        self.faults("far", BIG + 1, "(add 1000000000 1)")
        self.faults("far", -BIG - 1, "(sub -1000000000 1)")
        for word in ("add", "sub", "less"):
            for worth in (None, "1", row(1), self.thing):
                self.faults("wrong", worth, "(" + word + " x 1)", x=worth)
                self.faults("wrong", worth, "(" + word + " 1 x)", x=worth)
                self.faults("wrong", worth, "(" + word + " x 'other')", x=worth)

    def test_same(self):
        worths = (0, 1, -1, "", "0", "a", None, self.thing, self.other, row(), row(0), row("a"), row(row()), row(None))
        for one in worths:
            for other in worths:
                self.gives(1 if one == other else 0, "(same x y)", x=one, y=other)

    def test_rows(self):
        self.gives(row(), "(row)")
        self.gives(row(1, "a", None, self.thing, row(2)), "(row 1 'a' none me (row 2))")
        self.gives(nested(4), "(row (row (row (row))))")
        self.faults("many", 1, "(row x)", x=nested(4))
        self.faults("many", 3, "(row 1 x 2)", x=nested(4))
        self.faults("many", 2, "(row 1 (row (row (row (row)))))")
        self.faults("wrong", None, "(row 1 (add none 1) x)", x=nested(4))

    def test_parts_and_sizes(self):
        self.gives("b", "(part x 1)", x=row(1, "b"))
        self.gives(1, "(part x 0)", x=row(1, "b"))
        for at in (2, -1, 30, BIG):
            self.faults("lacks", at, "(part x y)", x=row(1, "b"), y=at)
        for worth in (None, 1, "row", self.thing):
            self.faults("wrong", worth, "(part x y)", x=worth, y="no number")
            self.faults("wrong", worth, "(size x)", x=worth)
        for worth in (None, "1", row(1), self.thing):
            self.faults("wrong", worth, "(part x y)", x=row(1), y=worth)
        for many in (0, 1, 30):
            self.gives(many, "(size x)", x=row(*range(many)))

    def test_get(self):
        self.gives(5, "(get me 'own')")
        self.gives("of the kind", "(get me 'word')")
        self.gives(6, "(get x 'own')", x=self.other)
        self.gives(7, "(get x 'num')", x=self.kind)
        self.gives(7, "(get (get me 'itself') y)", y="num")
        for worth in (None, 5, "own", row(self.thing), self.others["stand"], self.others["view"], self.others["wrap"],
                      self.others["frame"]):
            self.faults("wrong", worth, "(get x 5)", x=worth)
        for worth in (None, 5, "", "Own", "me", "here", "none", "abcdefghi", row("own"), self.thing):
            self.faults("wrong", worth, "(get me x)", x=worth)
        self.faults("lacks", "nothing", "(get me 'nothing')")
        self.faults("lacks", "own", "(get x 'own')", x=self.kind)
        made = self.has("go", "deed go ()")
        self.faults("lacks", "own", "(get x 'own')", x=made)
        self.faults("wrong", 5, "(get x 5)", x=made)
        for kind in (ALL, KINDS):
            self.faults("lacks", "own", "(get x 'own')", x=kind)

    def test_new(self):
        before = len(self.store)
        self.gives(("thing", before), "(new x b=1 a=(add 1 1))", x=self.kind)
        self.assertEqual(list(self.store.rows(("thing", before)).items()), [("b", 1), ("a", 2)])
        self.assertEqual(self.store.kind_of(("thing", before)), self.kind)
        self.gives(("thing", before + 1), "(new x)", x=ALL)
        for worth in (KINDS, DEEDS, FRAMES, self.thing, self.others["stand"], None, 1, "all", row(self.kind)):
            self.faults("wrong", worth, "(new x)", x=worth)
        wanting = self.store.kind("wanting", above=self.store.kind("w", wants=("c",)), wants=("b", "a"))
        self.faults("wants", "b", "(new x a=1)", x=wanting)
        self.faults("wants", "c", "(new x a=1 b=2)", x=wanting)
        self.faults("wants", "a", "(new x c=1 b=2)", x=wanting)
        while len(self.store) < 200:
            self.store.plain(ALL)
        self.faults("full", 200, "(new x)", x=ALL)
        self.faults("wants", "b", "(new x)", x=wanting)
        self.faults("wrong", KINDS, "(new x)", x=KINDS)

    def test_words_of_which_it_has_nothing(self):
        self.faults("wrong", "here", "here")
        for text in ("(onward)", "(onward (add none 1) x=(add none 1))", "(onward nothing)"):
            self.faults("wrong", "onward", text)
        for word, many in LOOKS.items():
            args = " (add none 1)" * many
            self.faults("wrong", "look", "(look " + word + args + ")")
        self.faults("wrong", "here", "(add here none)")
        self.faults("wrong", None, "(add (add none 1) here)")

    def test_parts_are_reckoned_from_left_to_right_then_looked_at(self):
        """Of two parts that come to a fault the left one does, ahead of all that is looked at."""
        for text in ("(add A B)", "(sub A B)", "(less A B)", "(same A B)", "(row A B)", "(part A B)", "(get A B)",
                     "(call A B)", "(call 1 A B)", "(call 1 2 A B)", "(call 1 2 3 A x=B)", "(call 1 2 x=A y=B)",
                     "(call 1 2 y=A x=B)", "(new A x=B)", "(new 1 x=A y=B)", "(row 1 A B)"):
            made = text.replace("A", "one").replace("B", "other")
            self.faults("lacks", "one", made)
            self.faults("lacks", "one", made, other=1)
            self.faults("lacks", "other", made, one=1)

    def test_all_expressions_here_run_or_come_to_a_fault(self):
        for tree in EACH_EXPRESSION:
            try:
                run_deed(self.store, self.thing, ("try", (("or", "x", 1),), (("give", tree),)))
            except Fault:
                pass


class Calls(Run):

    def test_me_args_and_names(self):
        self.has("mine", "deed mine () / give me")
        self.gives(self.thing, "(call me 'mine')")
        self.has("mine", "deed mine () / give me", thing=self.other)
        self.gives(self.other, "(call x 'mine')", x=self.other)
        self.gives(self.kind, "(call x 'mine')", x=self.kind)
        self.has("all", "deed every (a b=2 c.. *d *e=5) / give (row a b c d e)")
        self.gives(row(1, 2, row(), 4, 5), "(call me 'all' 1 d=4)")
        self.gives(row(1, 9, row(8, 7), 4, 3), "(call me 'all' 1 9 8 7 e=3 d=4)")
        self.gives(row(1, 9, row(), 4, 5), "(call me 'all' d=4 b=9 a=1)")
        self.has("bump", "deed bump (x) / let x (add x 1) / give x")
        self.gives(row(2, 1), "(row (call me 'bump' x) x)", x=1)

    def test_names_of_one_deed_are_none_of_the_other(self):
        self.has("inner", "deed inner () / give x")
        self.faults("lacks", "x", "(call me 'inner')", x=1)
        self.has("inner", "deed inner () / let y 1")
        self.breaks("lacks", "y", "do (call me 'inner') / give y")

    def test_none_behind_the_last_statement(self):
        for text in ("deed a ()", "deed a () / let x 1", "deed a () / if 0 / give 1 / end", "deed a () / give none",
                     "deed a () / while 0 / give 1 / end"):
            self.has("go", text)
            self.gives(None, "(call me 'go')")

    def test_faults_in_their_order(self):
        self.has("go", "deed go (a)")
        for worth in (None, 1, "go", row(), *self.others.values()):
            self.faults("wrong", worth, "(call x 5 1 1)", x=worth)
        for worth in (None, 1, "Go", "me", row(), self.thing):
            self.faults("wrong", worth, "(call me x 1 1)", x=worth)
        self.faults("lacks", "nothing", "(call me 'nothing' 1 1)")
        self.faults("wrong", 5, "(call me 'own' 1 1)")
        self.store.put(self.thing, "own", self.other)
        self.faults("wrong", self.other, "(call me 'own' 1 1)")
        for sort in self.others:
            self.store.put(self.thing, "own", self.others[sort])
            self.faults("wrong", self.others[sort], "(call me 'own' 1 1)")
        made = self.has("go", "deed go (a)")
        self.store.put(self.thing, "own", row(made))
        self.faults("wrong", row(made), "(call me 'own')")
        self.faults("many", 2, "(call me 'go' 1 2 q=1)")
        self.faults("strange", "q", "(call me 'go' q=1)")
        self.faults("twice", "a", "(call me 'go' 1 a=1)")
        self.faults("lacks", "a", "(call me 'go')")
        self.faults("lacks", "go", "(call x 'go')", x=made)

    def test_twelve_deeds_within_one_another(self):
        self.has("down", "deed down (n) / if n / give (add 1 (call me 'down' (sub n 1))) / end / give 0")
        self.gives(10, "(call me 'down' 10)")
        self.faults("deep", 12, "(call me 'down' 11)")
        self.assertEqual(run_plain(self.store, self.thing, "down", args=[11]), 11)
        self.fault("deep", 12, self.keeps, self.store, run_plain, self.store, self.thing, "down", args=[12])

    def test_deep_stands_ahead_of_matching_and_behind_all_else(self):
        head = "deed down (n) / if n / give (call me 'down' (sub n 1)) / end / give "
        self.has("free", "deed free ()")
        for why, found, text in (("deep", 12, "(call me 'free' 1 2 3)"), ("deep", 12, "(call me 'free' x=1)"),
                                 ("wrong", None, "(call none 'free')"), ("wrong", "Free", "(call me 'Free')"),
                                 ("lacks", "nothing", "(call me 'nothing')"), ("wrong", 5, "(call me 'own')"),
                                 ("lacks", "q", "(call me 'free' q)")):
            self.has("down", head + text)
            self.fault(why, found, run_plain, self.store, self.thing, "down", args=(11,))

    def test_deeds_of_twelve_levels_twelve_deep(self):
        tree = deed("deed deep (n) / give (call me 'deep' (sub n 1))")[2][0]
        for inner in (shells(7, tree), shells(7, tree, "if"), deed("deed deep (n) / give " + "(add 0 " * 7 + (
                "(call me 'deep' (sub n 1))" + ")" * 7))[2][0]):
            made = ("deep", (("by", "n"),), (("if", ("name", "n"), (inner,), ()), ("give", ONE)))
            self.assertTrue(is_deed(made))
            self.store.put(self.kind, "deep", self.store.deed(made))
            self.assertEqual(run_plain(self.store, self.thing, "deep", args=(11,)), 1)
            self.fault("deep", 12, run_plain, self.store, self.thing, "deep", args=(12,))


class Statements(Run):

    def test_let(self):
        self.assertEqual(self.does("let x 1 / let y x / let x (add x 1) / give (row x y)"), row(2, 1))
        self.assertEqual(self.does("let x 5 / give x", x=1), 5)
        self.breaks("lacks", "x", "let x (add x 1)")

    def test_set(self):
        self.assertIsNone(self.does("set me 'own' 9 / set x 'fresh' (row me) / set me 'word' none", x=self.other))
        self.assertEqual(self.store.rows(self.other), {"own": 6, "fresh": row(self.thing)})
        self.assertEqual(self.store.met(self.thing, "own"), (self.thing, 9))
        self.assertEqual(self.store.met(self.thing, "word"), (self.thing, None))
        self.assertEqual(self.store.met(self.kind, "word"), (self.kind, "of the kind"))
        self.does("set x 'num' 8", x=self.kind)
        self.assertEqual(self.store.met(self.thing, "num"), (self.kind, 8))

    def test_set_faults_in_their_order(self):
        made = self.has("go", "deed go ()")
        for worth in (None, 1, "own", row(self.thing), *self.others.values()):
            self.breaks("wrong", worth, "set x 5 1", x=worth)
        for worth in (None, 1, "Own", "here", row("own"), self.thing):
            for thing in (self.thing, ALL, made):
                self.breaks("wrong", worth, "set t x 1", x=worth, t=thing)
        for thing in (ALL, KINDS, DEEDS, FRAMES):
            self.breaks("barred", thing, "set t 'own' 1", t=thing)
        self.breaks("wrong", made, "set t 'own' 1", t=made)
        self.breaks("lacks", "one", "set one other more")
        self.breaks("lacks", "other", "set 1 other more")
        self.breaks("lacks", "more", "set 1 2 more")

    def test_do_and_give(self):
        self.assertEqual(self.does("do (new x) / give 2 / give 3", x=ALL), 2)
        self.assertEqual(self.store.sort_of(("thing", len(self.store) - 1)), "plain")
        self.breaks("wrong", None, "do (add none 1)")
        self.breaks("wrong", None, "give (add none 1)")

    def test_if(self):
        for worth, told in ((0, "no"), (None, "no"), (1, "yes"), (-1, "yes"), ("", "yes"), ("0", "yes"), (row(), "yes"),
                            (row(0), "yes"), (self.thing, "yes")):
            self.assertEqual(self.does("if x / give 'yes' / else / give 'no' / end", x=worth), told)
            self.assertEqual(self.does("if x / let y 'yes' / else / let y 'no' / end / give y", x=worth), told)
            self.assertEqual(self.does("if x / let y 'yes' / give 'yes' / end / give 'no'", x=worth), told)
            self.assertEqual(self.does("if x / else / give 'no' / end / give 'yes'", x=worth), told)

    def test_while(self):
        self.assertEqual(self.does("let n 0 / while (less n 5) / let n (add n 1) / end / give n"), 5)
        self.assertEqual(self.does("while none / give 1 / end / give 2"), 2)
        self.assertEqual(self.does("while '' / give 1 / end / give 2"), 1)
        self.assertEqual(self.does("let n 9 / while n / if (same n 4) / give n / end / let n (sub n 1) / end"), 4)

    def test_give_ends_just_the_deed_that_gives(self):
        self.has("inner", "deed inner () / while 1 / if 1 / give 3 / end / end")
        self.assertEqual(self.does("let x (call me 'inner') / give (add x 1)"), 4)

    def test_two_thousand_statements(self):
        """Each `let` and each look at the condition is counted: the first let, 2 n + 1 in the loop, the give."""
        loop = "let n 0 / while (less n x) / let n (add n 1) / end"
        self.assertEqual(self.does(loop + " / give n", x=998), 998)
        self.breaks("long", 2000, loop + " / give n / give n", x=999)
        self.breaks("long", 2000, loop + " / give n", x=999)
        self.assertIsNone(self.does(loop, x=999))
        self.breaks("long", 2000, loop, x=1000)
        self.breaks("long", 2000, "while 1 / end")
        self.breaks("long", 2000, loop + " / give (add none 1)", x=999)
        self.breaks("wrong", None, loop + " / give (add none 1)", x=998)

    def test_statements_of_all_deeds_are_counted(self):
        self.has("inner", "deed inner () / let x 1 / let x 2 / give x")
        loop = "let n 0 / while (less n x) / let n (add n 1) / do (call me 'inner') / end"
        self.assertIsNone(self.does(loop, x=333))
        self.breaks("long", 2000, loop + " / if 1 / end", x=333)
        self.breaks("long", 2000, loop, x=334)

    def test_if_is_counted_once(self):
        loop = "let n 0 / while (less n x) / let n (add n 1) / if n / end / end"
        self.assertIsNone(self.does(loop, x=666))
        self.breaks("long", 2000, loop + " / give 1", x=666)
        self.breaks("long", 2000, loop, x=667)


class Runs(Run):

    def setUp(self):
        Run.setUp(self)
        self.go = self.has("go", "deed go (a b=2 *c=3) / set me 'seen' (row me a b c) / give (row a b c)")

    def test_a_run_of_what_the_name_meets(self):
        self.assertEqual(run_plain(self.store, self.thing, "go", args=[1]), row(1, 2, 3))
        self.assertEqual(self.store.rows(self.thing)["seen"], row(self.thing, 1, 2, 3))
        self.assertEqual(run_plain(self.store, self.kind, "go", args=(1, 5), named={"c": self.other}),
                         row(1, 5, self.other))
        self.assertEqual(run_plain(named={"a": 4}, args=[], name="go", thing=self.thing, store=self.store), row(4, 2, 3))
        self.has("mine", "deed mine () / give 1")
        self.assertEqual(run_plain(self.store, self.thing, "mine"), 1)
        self.assertEqual(run_plain(self.store, self.thing, "mine", args=(), named=None), 1)
        self.assertRaises(TypeError, run_plain, self.store, self.thing, "mine", ())

    def test_a_run_of_a_deed_that_stands_nowhere(self):
        made = deed("deed alone (x) / set me 'own' x / give me")
        many = len(self.store)
        for thing in (self.thing, self.kind):
            self.assertEqual(run_deed(self.store, thing, made, args=[9]), thing)
            self.assertEqual(self.store.rows(thing)["own"], 9)
        self.assertEqual(run_deed(self.store, self.go, deed("deed a () / give me")), self.go)
        self.assertEqual(run_deed(named={}, args=(), deed=deed("deed a () / give 1"), thing=ALL, store=self.store), 1)
        self.assertEqual(len(self.store), many)

    def test_refusals_in_their_order(self):
        bad = ((NoStore, 5), (NoThing, ("thing", 999)), (NoName, "Go"), (NoList, [True]), (NoRows, {"A": 1}))
        good = (self.store, self.thing, "go", (1,), {})
        for call in (run_plain, rows_plain):
            self.refuses_in_order(call, bad, good)
        bad = bad[:2] + ((NoDeed, ("a",)),) + bad[3:]
        self.refuses_in_order(run_deed, bad, good[:2] + (deed("deed a (x)"),) + good[3:])

    def refuses_in_order(self, call, bad, good):
        for at, (error, found) in enumerate(bad):
            one, two, three, args, named = good[:at] + tuple(thing for _, thing in bad[at:])
            self.refused(error, found, self.keeps, self.store, call, one, two, three, args=args, named=named)

    def test_what_is_refused(self):
        made = deed("deed a ()")
        for thing in STRANGE_THINGS + (None, 5, "store"):
            for call, third in ((run_plain, "go"), (rows_plain, "go"), (run_deed, made)):
                self.refused(NoStore, thing, call, thing, self.thing, third)
        for thing in NO_THINGS:
            if thing != ("thing", 4):
                for call, third in ((run_plain, "go"), (rows_plain, "go"), (run_deed, made)):
                    self.refused(NoThing, thing, call, self.store, thing, third)
        for name in NO_NAMES:
            for call in (run_plain, rows_plain):
                self.refused(NoName, name, call, self.store, self.thing, name)
        for thing in (None, 5, "deed a ()", ("a", ()), ["a", (), ()], self.go):
            self.refused(NoDeed, thing, run_deed, self.store, self.thing, thing)

    def test_args_and_named_that_are_none(self):
        made = deed("deed a (x..)")
        missing = ("thing", len(self.store))
        for call, third in ((run_plain, "go"), (rows_plain, "go"), (run_deed, made)):
            for args in (None, 5, "ab", {}, {"a": 1}, [True], [[]], [missing], (1, row(row(missing))), [1] * 21,
                         ("x" * 61,), self.store):
                self.refused(NoList, args, self.keeps, self.store, call, self.store, self.thing, third, args=args)
            for named in (5, [], (), "a", {"A": 1}, {"a": True}, {"a": missing}, {"a": row(1, missing)}, {1: 1},
                          {None: 1}, False, self.store):
                self.refused(NoRows, named, self.keeps, self.store, call, self.store, self.thing, third, named=named)
        self.assertIsNone(run_deed(self.store, self.thing, made, args=[1] * 20))

    def test_faults_of_the_call_itself(self):
        self.fault("lacks", "nothing", run_plain, self.store, self.thing, "nothing")
        self.fault("wrong", 5, run_plain, self.store, self.thing, "own")
        self.fault("wrong", self.thing, run_plain, self.store, self.thing, "itself")
        self.fault("lacks", "go", run_plain, self.store, self.go, "go")
        self.fault("lacks", "a", run_plain, self.store, self.thing, "go")
        self.fault("many", 3, run_plain, self.store, self.thing, "go", args=[1, 2, 3])
        self.fault("strange", "q", run_plain, self.store, self.thing, "go", args=[1], named={"q": 1})
        self.fault("twice", "a", run_plain, self.store, self.thing, "go", args=[1], named={"a": 1})
        self.store.put(self.kind, "go", self.others["wrap"])
        self.fault("wrong", self.others["wrap"], run_plain, self.store, self.thing, "go", args=[1])

    def test_things_of_other_sorts(self):
        for thing in self.others.values():
            self.fault_of_very("wrong", thing, self.keeps, self.store, run_plain, self.store, thing, "nothing")
            self.fault_of_very("wrong", thing, self.keeps, self.store, run_deed, self.store, thing,
                               deed("deed a (x)"), args=[1, 2])
            self.assertEqual(rows_plain(self.store, thing, "nothing"), [])
            self.refused(NoRows, 5, run_plain, self.store, thing, "nothing", named=5)
            self.refused(NoRows, 5, run_deed, self.store, thing, deed("deed a ()"), named=5)

    def test_the_store_as_it_was_behind_a_fault(self):
        for last in ("give (add none 1)", "do here", "while 1 / end", "do (call me 'go' 1 2 3)", "do nothing"):
            text = "set me 'own' 1 / set x 'num' 2 / do (new x) / set me 'fresh' (new x) / " + last
            before = self.store.twin()
            self.assertRaises(Fault, self.does, text, x=self.kind)
            self.assertTrue(self.store == before)
            made = self.has("bad", "deed bad (x) / " + text)
            self.assertEqual(self.store.sort_of(made), "deed")
            before = self.store.twin()
            self.assertRaises(Fault, run_plain, self.store, self.thing, "bad", args=[self.kind])
            self.assertTrue(self.store == before)

    def test_what_is_handed_in_is_not_changed(self):
        args, named = [1, 2], {"c": 3}
        run_plain(self.store, self.thing, "go", args=args, named=named)
        rows_plain(self.store, self.thing, "go", args=args, named=named)
        run_deed(self.store, self.thing, deed("deed a (x.. *c) / let x 1 / let c 2"), args=args, named=named)
        self.assertEqual((args, named), ([1, 2], {"c": 3}))

    def test_deeds_by_chance_run_alike_again(self):
        """What a deed does to a Store, it does to a twin of it as well."""
        for seed in range(200):
            made = Chance(seed).deed()
            if not is_deed(made):
                continue
            told = []
            for store in (self.store.twin(), self.store.twin()):
                try:
                    told.append((run_deed(store, self.thing, made, named={}), store))
                except Fault as fault:
                    self.assertTrue(store == self.store)
                    told.append(((fault.why, fault.found), store))
            self.assertTrue(told[0] == told[1], made)


if __name__ == "__main__":
    unittest.main()
