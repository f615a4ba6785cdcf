"""A Store with things of each sort, and a Machine at a stop, for the tests of asks and of all that rests on them."""

import unittest

from checks import Checks
from deeds import deed
from innerlook.asks import ask
from innerlook.fronts import stand
from innerlook.machine import Machine, called
from innerlook.store import Store
from innerlook.views import view
from innerlook.wraps import put_on


class House(Checks, unittest.TestCase):
    """box above sub; a thing of sub, with own rows own and b; deeds add and open, of sub and of the thing."""

    def setUp(self):
        self.store = store = Store()
        self.box = store.kind("box", wants=("own",), shares=("sh",), rows={"top": "of box", "mid": "hidden"})
        self.sub = store.kind("sub", above=self.box, rows={"mid": "of sub"})
        self.thing = store.plain(self.sub, rows={"own": 1, "b": None})
        self.add = self.has("add", "deed add (n *by=1) / give (add n by)")
        self.open = self.has("open", "deed open (x) / let y (call me 'inner' x) / give y", self.thing)
        self.has("inner", "deed inner (z) / let w 5 / do w / give (add z w)")
        self.store.put(self.sub, "wrapped", self.add)
        self.wrap = put_on(store, self.sub, "wrapped", ("often", 3))

    def has(self, name, text, thing=None):
        """Put a deed of these rows into a row."""
        made = self.store.deed(deed(text))
        self.store.put(self.sub if thing is None else thing, name, made)
        return made

    def two_frames(self):
        """A Machine at the second stop of the inner one of two deeds, and the frames of both."""
        machine = Machine(self.store, self.thing, "open", args=[4])
        machine.step()
        machine.step()
        return machine, *machine.frames()

    def stand(self, *rules, thing=None):
        return stand(self.store, self.thing if thing is None else thing, rules)

    def view(self, *names, thing=None, asks=None):
        """A view that lets through these names, or all where none are told."""
        return view(self.store, self.thing if thing is None else thing, names=names or None, asks=asks)

    def ask(self, thing, word, *things):
        return ask(self.store, thing, word, things)

    def asks(self, why, found, thing, word, *things):
        """The ask comes to this Fault, and leaves all as it was."""
        self.fault(why, found, self.keeps, self.store, ask, self.store, thing, word, list(things))

    def does(self, text, *args, me=None):
        """The answer of a deed of these rows, by a Machine, its args by the names a, b, c."""
        self.has("try", "deed try (a=0 b=0 c=0) / " + text)
        return called(self.store, self.thing if me is None else me, "try", args=args)

    def breaks(self, why, found, text, *args):
        """The deed comes to this Fault, and leaves all as it was ahead."""
        self.has("try", "deed try (a=0 b=0 c=0) / " + text)
        self.fault(why, found, self.keeps, self.store, called, self.store, self.thing, "try", args=args)
