"""Promise 141: Stores as texts, sign by sign, read again, and all that is refused."""

import random
import unittest

from checks import STRANGE_THINGS, Checks, names, row
from deeds import Chance, deed
from house import House
from innerlook.asks import ask
from innerlook.errors import NoRow, NoStore, NoText, Unfit
from innerlook.fronts import counted, stand
from innerlook.machine import called
from innerlook.making import exchanged
from innerlook.store import Store
from innerlook.storetext import read_store, store_text
from innerlook.trees import is_deed
from innerlook.views import take_back, view
from innerlook.wraps import put_on, remembered
from test_fronts import rules_by_chance
from test_store import ALL, FRAMES

BOX, THING, ADD = ("thing", 4), ("thing", 5), ("thing", 6)
# A Store of all sorts, with what each may have.
WHOLE = """kind box #0
wants own q
shares sh
row top 'of box'
row add #10
plain #4
row own [1 -1000000000 none 'a # ]' #5 [#6 []]]
row q none
deed add (n *by=1)
if (less n 1)
give (look names me)
else
do here
end
while n
end
done
kind low #4
shares a b c d e f
deed e ()
done
wrap kept #6
wrap before:#6 #9
wrap often:0 #10
wrap around:#6 #11
stand #5
rule hide:a
rule bar:b
rule as:c:own
rule give:d:'a : b'
rule give:e:[#13 none]
rule count:a
rule count:zz
view #13
view #14
names a b own
view #15
asks get call has
view #16
names
asks
taken
stand #2
view #3
taken
plain #0"""


def whole_store():
    store = Store()
    store.kind("box", wants=("own", "q"), shares=("sh",), rows={"top": "of box", "add": 0})
    store.plain(BOX, rows={"own": 0, "q": None})
    store.deed(deed("deed add (n *by=1) / if (less n 1) / give (look names me) / else / do here / end / while n / end"))
    store.put(THING, "own", row(1, -10 ** 9, None, "a # ]", THING, row(ADD, row())))
    store.kind("low", above=BOX, shares=tuple("abcdef"))
    store.deed(deed("deed e ()"))
    store.put(BOX, "add", ADD)
    for way in (("kept",), ("before", ADD), ("often", 0), ("around", ADD)):
        put_on(store, BOX, "add", way)
    store.put(BOX, "add", ("thing", 10))
    front = stand(store, THING, (("hide", "a"), ("bar", "b"), ("as", "c", "own"), ("give", "d", "a : b"),
                                 ("give", "e", row(ALL, None)), ("count", "a"), ("count", "zz")))
    store.record(front).own_rules = store.record(front).own_rules[:4] + (
        ("give", "e", row(front, None)),) + store.record(front).own_rules[5:]
    view(store, front)
    view(store, ("thing", 14), names=("a", "b", "own"))
    view(store, ("thing", 15), asks=("get", "call", "has"))
    take_back(store, view(store, ("thing", 16), names=(), asks=()))
    stand(store, ("thing", 2))
    take_back(store, view(store, ("thing", 3)))
    store.plain(ALL)
    return store


class Texts(Checks, unittest.TestCase):

    def row_refused(self, at, text):
        with self.assertRaises(NoRow) as caught:
            read_store(text)
        self.assertEqual(caught.exception.at, at, text)

    def unfit(self, number, text):
        with self.assertRaises(Unfit) as caught:
            read_store(text)
        self.assertEqual(caught.exception.found, ("thing", number), text)


class Written(Texts):

    def test_all_sorts_sign_by_sign(self):
        store = whole_store()
        self.assertEqual(store_text(store), WHOLE)
        read = read_store(WHOLE)
        self.assertTrue(read == store)
        self.assertEqual(store_text(read), WHOLE)
        self.assertTrue(read_store(text=WHOLE) == read.twin())

    def test_a_new_store_has_a_text_without_signs(self):
        self.assertEqual(store_text(Store()), "")
        self.assertTrue(read_store("") == Store())
        self.assertEqual(store_text(store=Store()), "")

    def test_refused(self):
        for thing in STRANGE_THINGS + (None, 5, "store"):
            self.refused(NoStore, thing, store_text, thing)
        for thing in (None, 5, [], (), {}, True, Store(), [""]):
            self.refused(NoText, thing, read_store, thing)

    def test_what_is_remembered_and_counted_is_not_written(self):
        store = Store()
        kind = store.kind("box", rows={"f": 0})
        thing = store.plain(kind)
        store.put(kind, "f", store.deed(deed("deed f (n) / give n")))
        kept, often = put_on(store, kind, "f", ("kept",)), put_on(store, kind, "f", ("often", 5))
        front = stand(store, thing, (("count", "f"),))
        text = store_text(store)
        called(store, front, "f", args=[1])
        ask(store, front, "has", ["f"])
        self.assertEqual(store_text(store), text)
        read = read_store(text)
        self.assertEqual((remembered(read, kept), remembered(read, often), counted(read, front)), ([], 5, {"f": 0}))
        self.assertFalse(read == store)
        self.assertEqual(remembered(store, often), 4)

    def test_a_read_store_goes_on_by_itself(self):
        one, other = read_store(WHOLE), read_store(WHOLE)
        one.put(THING, "q", 1)
        self.assertFalse(one == other)
        exchanged(one, ADD, ("thing", 8))
        self.assertEqual(store_text(other), WHOLE)

    def test_things_behind_those_that_lead_to_them(self):
        store = whole_store()
        last = store.kind("last", wants=("own",))
        exchanged(store, BOX, last)
        other = store.plain(ALL, rows={"own": 5})
        exchanged(store, THING, other)
        self.assertTrue(read_store(store_text(store)) == store)

    def test_more_rows_than_a_thing_is_made_with(self):
        store = Store()
        thing = store.plain(ALL, rows={name: 1 for name in names(30)})
        for name in ("more", "most"):
            store.put(thing, name, 1)
        self.assertTrue(read_store(store_text(store)) == store)

    def test_two_hundred_things(self):
        store = Store()
        while len(store) < 200:
            store.plain(ALL, rows={"a": ("thing", 3)})
        text = store_text(store)
        self.assertTrue(read_store(text) == store)
        for more in ("plain #0", "deed a ()", "kind a #0", "stand #0", "wrap kept #0", "view #0"):
            self.row_refused(392, text + "\n" + more)
        read_store(text + "\nrow b 1")


class FramesAreUnfit(House):

    def test_the_first_frame(self):
        machine, outer, inner = self.two_frames()
        for _ in range(2):
            with self.assertRaises(Unfit) as caught:
                store_text(self.store)
            self.assertEqual(caught.exception.found, outer)
            machine.is_done() or machine.run()


class Rows(Texts):

    def test_the_first_row_that_can_not_stand_where_it_stands(self):
        for text, at in (
                ("\n", 0), (" ", 0), ("x", 0), ("plain", 0), ("plain #", 0), ("plain #00", 0), ("plain #1000", 0),
                ("plain  #0", 0), ("plain #0 ", 0), (" plain #0", 0), ("plain 0", 0), ("plain #0 #0", 0), ("Plain #0", 0),
                ("plain [#0]", 0), ("plain #-1", 0), ("row a 1", 0), ("wants a", 0), ("rule hide:a", 0), ("names a", 0),
                ("taken", 0), ("done", 0), ("end", 0), ("plain #0\n", 1), ("plain #0\n\nplain #0", 1),
                ("plain #0\nrow", 1), ("plain #0\nrow a", 1), ("plain #0\nrow a ", 1), ("plain #0\nrow a  1", 1),
                ("plain #0\nrow a 1 ", 1), ("plain #0\n row a 1", 1), ("plain #0\nrow A 1", 1), ("plain #0\nrow me 1", 1),
                ("plain #0\nrow a 01", 1), ("plain #0\nrow a 'x", 1), ("plain #0\nrow a 1\nrow a 1", 2),
                ("plain #0\nwants a", 1), ("plain #0\nshares a", 1), ("plain #0\nrule hide:a", 1), ("plain #0\ntaken", 1),
                ("kind", 0), ("kind a", 0), ("kind #0", 0), ("kind a #0 #0", 0), ("kind A #0", 0), ("kind none #0", 0),
                ("kind abcdefghi #0", 0), ("kind a none", 0), ("kind a  #0", 0), ("kind a #0\nwants", 1),
                ("kind a #0\nwants ", 1), ("kind a #0\nwants a  b", 1), ("kind a #0\nwants a a", 1),
                ("kind a #0\nwants a b c d e f g", 1), ("kind a #0\nwants A", 1), ("kind a #0\nwants a\nwants b", 2),
                ("kind a #0\nshares a\nwants b", 2), ("kind a #0\nshares a\nshares b", 2), ("kind a #0\nshares", 1),
                ("kind a #0\nrow a 1\nwants b", 2), ("kind a #0\nrow a 1\nshares b", 2), ("kind a #0\nrow a 1\nrow a 2", 2),
                ("kind a #0\nwants a\nnames b", 2), ("wrap", 0), ("wrap kept", 0), ("wrap #0", 0), ("wrap kept  #0", 0),
                ("wrap kept #0 ", 0), ("wrap often #0", 0), ("wrap often: #0", 0), ("wrap often:100 #0", 0),
                ("wrap often:-1 #0", 0), ("wrap often:01 #0", 0), ("wrap often:#1 #0", 0), ("wrap before #0", 0),
                ("wrap before:1 #0", 0), ("wrap before:#1000 #0", 0), ("wrap kept:#1 #0", 0), ("wrap other:#1 #0", 0),
                ("wrap before:#0,#1 #0", 0), ("wrap keptx #0", 0), ("wrap kept #0\nrow a 1", 1), ("wrap kept #0\ntaken", 1),
                ("stand", 0), ("stand #0 #0", 0), ("stand none", 0), ("stand #0\nrule", 1), ("stand #0\nrule ", 1),
                ("stand #0\nrule hide", 1), ("stand #0\nrule hide:", 1), ("stand #0\nrule hide:A", 1),
                ("stand #0\nrule hide:a:b", 1), ("stand #0\nrule hide:a ", 1), ("stand #0\nrule as:a", 1),
                ("stand #0\nrule as:a:", 1), ("stand #0\nrule as:a:b:c", 1), ("stand #0\nrule as:a b", 1),
                ("stand #0\nrule give:a", 1), ("stand #0\nrule give:a:", 1), ("stand #0\nrule give:a:01", 1),
                ("stand #0\nrule give:a:1 ", 1), ("stand #0\nrule give:me:1", 1), ("stand #0\nrule other:a", 1),
                ("stand #0\nrole hide:a", 1), ("stand #0\nnames hide:a", 1), ("stand #0\nrule as:A:b", 1),
                ("stand #0\nrule give:a=1", 1), ("stand #0\nrule as:a=b", 1), ("plain #0\nrow a:1", 1),
                ("plain #0\nrow a=1", 1), ("stand #0\nrule count:none", 1), ("stand #0\nrule hide:a\nrule bar:a", 2),
                ("stand #0\nrule count:a\nrule count:a", 2), ("stand #0\nrule  hide:a", 1), ("stand #0\nhide:a", 1),
                ("stand #0" + "".join("\nrule hide:" + name for name in names(9)), 9), ("stand #0\nnames a", 1),
                ("view", 0), ("view #0 a", 0), ("view none", 0), ("view #0\nnames ", 1), ("view #0\nnames a  b", 1),
                ("view #0\nnames a a", 1), ("view #0\nnames A", 1), ("view #0\nnames " + " ".join(names(21)), 1),
                ("view #0\nnames\nnames", 2), ("view #0\nasks\nasks", 2), ("view #0\nasks\nnames", 2),
                ("view #0\nasks ", 1), ("view #0\nasks get get", 1), ("view #0\nasks add", 1), ("view #0\nasks get  has", 1),
                ("view #0\ntaken\ntaken", 2), ("view #0\ntaken\nnames", 2), ("view #0\ntaken\nasks", 2),
                ("view #0\ntaken ", 1), ("view #0\nrule hide:a", 1), ("frame #0", 0), ("plain #0\nframe #0", 1)):
            self.row_refused(at, text)

    def test_deeds_are_read_as_24_tells(self):
        text = "deed f (n)  \n  give n \n\n   \n do 1\ndone\nplain #0"
        store = read_store(text)
        self.assertEqual(store.deed_of(("thing", 4)), deed("deed f (n) / give n / do 1"))
        self.assertEqual(store_text(store), "deed f (n)\ngive n\ndo 1\ndone\nplain #0")
        for bad, at in ((" deed f ()\ndone", 0), ("deed", 0), ("deed f", 0), ("deed  f ()", 0), ("deed f () x", 0),
                        ("deed f ()", 1), ("deed f ()\ndo 1\n", 3), ("deed f ()\n done", 1), ("deed f ()\ndone ", 1),
                        ("deed f ()\nif 1\ndone", 2), ("deed f ()\nplain #0", 1), ("deed f ()\nend", 1),
                        ("deed f ()\ndone\ndone", 2), ("deed f ()\ndone\n\nplain #0", 2), ("deed f ()\ndone\ndo 1", 2),
                        ("deed f ()\ndone\nrow a 1", 2), ("deed f ()\ndeed g ()", 1), ("deed f ()\nif 1\nend\n", 4)):
            self.row_refused(at, bad)

    def test_rows_come_ahead_of_what_is_unfit(self):
        self.row_refused(1, "plain #9\nx")
        self.row_refused(2, "plain #9\nplain #9\nrow a")
        self.unfit(4, "plain #9\nplain #9")


class Leads(Texts):

    def test_to_what_is_not_there(self):
        for text in ("plain #5", "kind a #9", "wrap kept #9", "wrap before:#9 #5\ndeed a ()\ndone", "stand #9", "view #9",
                     "plain #0\nrow a #9", "plain #0\nrow a [1 [#9]]", "kind a #0\nrow a #9", "stand #0\nrule give:a:#9",
                     "stand #0\nrule hide:b\nrule give:a:[[#9]]", "plain #999"):
            self.unfit(4, text)

    def test_to_what_is_not_of_a_sort_or_kind_that_may_be_there(self):
        of_each = "\nplain #0\ndeed a ()\ndone\nstand #0\nview #0\nkind k #0\nwrap kept #6"
        for number in (1, 2, 3, 5, 6, 7, 8, 10):
            self.unfit(4, "plain #" + str(number) + of_each)
            self.unfit(4, "kind a #" + str(number) + of_each)
        for number in (0, 1, 2, 3, 5, 7, 8, 9):
            self.unfit(4, "wrap kept #" + str(number) + of_each)
        for number in (0, 1, 5, 7, 8, 9, 10):
            for word in ("before", "behind", "around"):
                self.unfit(4, "wrap " + word + ":#" + str(number) + " #6" + of_each)
        for text in ("plain #9", "kind a #9", "wrap kept #6", "wrap kept #10", "wrap before:#6 #10"):
            self.assertEqual(len(read_store(text + of_each)), 11)
        for number in (0, 1, 2, 3, 5, 6, 7, 8, 9, 10):
            read_store("stand #" + str(number) + of_each)
            read_store("view #" + str(number) + of_each)
            read_store("plain #0" + "\nrow a #" + str(number) + of_each)

    def test_to_no_end(self):
        for text in ("stand #4", "view #4", "kind a #4", "wrap kept #4", "stand #5\nview #4", "kind a #5\nkind b #4",
                     "wrap kept #5\nwrap often:1 #4", "view #5\nview #6\nview #5", "stand #5\nstand #5",
                     "plain #5\nkind a #6\nkind b #5", "stand #5\nplain #6\nkind a #6"):
            self.unfit(4, text)
        self.unfit(5, "plain #0\nview #5")

    def test_on_and_on_along_kinds_above_within_and_behind(self):
        for text in ("stand #5\nplain #6\nkind a #7\nkind b #9", "view #5\nview #6\nstand #9", "stand #5\nwrap kept #6\n"
                     "wrap kept #0", "plain #5\nkind a #6\nkind b #1", "wrap kept #5\nwrap kept #6\nstand #0",
                     "kind a #5\nkind b #6\nplain #0", "view #5\nkind a #9"):
            self.unfit(4, text)

    def test_by_rows_rules_and_ways_by_itself_alone(self):
        for text in ("plain #0\nrow a #5\nplain #9", "kind a #0\nrow a #5\nplain #9", "stand #5\nplain #0\nrow a #9",
                     "stand #0\nrule give:a:#5\nstand #9", "plain #5\nkind a #0\nrow a #9", "view #5\nstand #0\n"
                     "rule give:a:#9", "wrap kept #5\nwrap before:#9 #6\ndeed a ()\ndone"):
            self.unfit(5, text)
        self.assertEqual(len(read_store("plain #0\nrow a #5\nplain #0\nrow a #4")), 6)
        self.assertEqual(len(read_store("stand #5\nrule give:a:#4\nplain #0\nrow itself #5")), 6)

    def test_what_a_plain_thing_lacks(self):
        text = "plain #5\nrow a 1\nkind k #6\nwants a\nkind above #0\nwants b\nrow b 1"
        self.unfit(4, text)
        self.assertEqual(len(read_store(text.replace("row a 1", "row a 1\nrow b 2"))), 7)
        self.unfit(5, "stand #5\nplain #6\nkind k #0\nwants a")
        self.unfit(4, "plain #6\nplain #9\nkind k #0\nwants a")

    def test_the_first_by_numbers(self):
        self.unfit(5, "plain #0\nplain #9\nplain #9")
        self.unfit(6, "kind a #0\nkind b #4\nkind c #7\nkind d #6")


class ByChance(Texts):

    def test_written_and_read(self):
        numbers, chance = random.Random(4), Chance(5)
        for _ in range(60):
            store = Store()
            for _ in range(numbers.randrange(25)):
                self.add(store, numbers, chance)
            text = store_text(store)
            self.assertTrue(read_store(text) == store)
            self.assertEqual(store_text(read_store(text)), text)

    def add(self, store, numbers, chance):
        some = ("thing", numbers.randrange(len(store)))
        worth = numbers.choice((1, None, "a b:c", row(some, 5, row("x y"))))
        sort = numbers.randrange(7)
        kinds = [("thing", number) for number in range(len(store)) if store.may_have_things(("thing", number))]
        if sort == 0:
            store.plain(numbers.choice(kinds), rows={"b": worth, "a": some})
        elif sort == 1:
            wants = numbers.choice(((), ("a",), ("b", "a")))
            store.kind(chance.name()[:8].replace("none", "no"), above=numbers.choice(kinds), wants=wants,
                       shares=("q",)[:numbers.randrange(2)], rows={"c": worth})
        elif sort == 2:
            tree = chance.deed()
            if is_deed(tree):
                made = store.deed(tree)
                thing = store.plain(ALL, rows={"f": made})
                for way in (("kept",), ("often", 7), ("before", made), ("around", made))[:numbers.randrange(5)]:
                    put_on(store, thing, "f", way)
        elif sort == 3:
            rules = tuple(rule if rule[0] != "give" else ("give", rule[1], worth)
                          for rule in rules_by_chance(numbers, ("a", "b", "c", "d", "e")))
            stand(store, some, rules)
        else:
            made = view(store, some, names=numbers.choice((None, (), ("a",), ("b", "a"))),
                        asks=numbers.choice((None, (), ("get", "text"))))
            if sort == 4:
                take_back(store, made)

    def test_a_text_with_a_part_changed_is_refused_or_read_as_it_is_written(self):
        numbers = random.Random(6)
        rows = WHOLE.split("\n")
        for _ in range(600):
            at = numbers.randrange(len(rows))
            changed = list(rows)
            way = numbers.randrange(3)
            if way == 0:
                del changed[at]
            elif way == 1:
                changed.insert(at, numbers.choice(rows))
            else:
                changed[at] = numbers.choice(rows)
            text = "\n".join(changed)
            try:
                store = read_store(text)
            except (NoRow, Unfit):
                continue
            self.assertEqual(store_text(store), text)

    def test_frames_are_no_kind(self):
        self.unfit(4, "plain #" + str(FRAMES[1]))


if __name__ == "__main__":
    unittest.main()
