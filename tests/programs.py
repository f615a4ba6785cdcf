"""Programs by chance numbers that mostly go on for a while, in a Store of a few things."""

import random

from innerlook.store import Store
from innerlook.trees import is_deed

ME = ("me",)
NUMBERS, ROWS, THINGS = ("a", "b", "x"), ("r", "s"), ("t", "u")


def lit(worth):
    return ("lit", worth)


class Programs:
    """A Store of two kinds and three things, with deeds f, g, h of which each calls those behind it."""

    def __init__(self, seed, looks=()):
        self.chance = random.Random(seed)
        self.looks = looks
        self.store = store = Store()
        self.top = store.kind("top", rows={"n": 5, "far": 7})
        self.kind = store.kind("low", above=self.top, wants=("own",))
        self.things = [store.plain(self.kind, rows={"own": at, "next": self.kind, "k": self.top}) for at in range(3)]
        for at in range(3):
            store.put(self.things[at], "next", self.things[(at + 1) % 3])
        self.callable = []
        for name in "hgf":
            made = self.deed(name)
            assert is_deed(made), made
            store.put(self.kind, name, store.deed(made))
            self.callable.append(name)

    def pick(self, *ways):
        return self.chance.choice(ways)

    def number(self, levels):
        if levels <= 1 or self.chance.random() < 0.3:
            return self.pick(lit(self.chance.randrange(-3, 9)), *[("name", name) for name in NUMBERS])
        one, other = self.number(levels - 1), self.number(levels - 1)
        more = [("size", self.row(levels - 1)), ("get", self.thing(levels - 1), lit(self.pick("own", "n", "far")))]
        if not self.looks:
            more.append(("same", self.any(levels - 1), self.any(levels - 1)))
        if self.callable:
            more += [self.call(levels - 1)] * 2
        return self.pick(("add", one, other), ("sub", one, other), ("less", one, other), *more, *self.looked(levels, "n"))

    def call(self, levels):
        args = tuple(self.number(levels - 1) for _ in range(self.chance.randrange(1, 3)))
        named = self.pick((), (), (("t", self.thing(levels - 1)),))
        return ("call", self.thing(levels - 1), lit(self.pick(*self.callable)), args, named)

    def row(self, levels):
        if levels <= 1 or self.chance.random() < 0.4:
            return self.pick(("row", ()), *[("name", name) for name in ROWS])
        parts = tuple(self.any(levels - 1) for _ in range(self.chance.randrange(4)))
        return self.pick(("row", parts), ("row", parts), *self.looked(levels, "r"))

    def thing(self, levels):
        if levels <= 1 or self.chance.random() < 0.5:
            return self.pick(ME, ("name", "t"), ("name", "u"))
        return self.pick(("get", self.thing(levels - 1), lit("next")), *self.looked(levels, "t"),
                         ("new", ("get", ME, lit("k")), (("next", ME), ("own", self.number(levels - 1)))))

    def looked(self, levels, sort):
        """Looks of this sort of worth, where the program has looks."""
        if not self.looks:
            return ()
        thing = self.thing(levels - 1)
        name = lit(self.pick("own", "n", "next", "f", "q"))
        ways = {
            "n": (("look", "has", (thing, name)), ("look", "under", (thing, ("get", ME, lit("k")))),
                  ("get", ("here",), lit("a")), ("look", "has", (("here",), lit("x"))),
                  ("size", ("look", "names", (thing,)))),
            "r": (("look", "names", (thing,)), ("look", "names", (("here",),)),
                  ("look", "params", (("get", ME, lit("f")),)), ("row", (("look", "title", (("here",),)),))),
            "t": (("look", "copy", (thing,)), ("look", "deep", (thing,)), ("look", "owner", (thing, name)),
                  ("look", "stand", (thing,)), ("look", "narrow", (thing, lit(0))), ("look", "kind", (thing,)),
                  ("look", "narrow", (thing, ("row", (lit("own"), lit("next"), lit("k"), lit("f")))))),
        }[sort]
        return tuple(way for way in ways if way[1] in self.looks or way[0] != "look")

    def any(self, levels):
        if self.chance.random() < 0.05:
            return self.pick(lit(None), lit("a text"), ("name", "q"), ("part", self.row(levels - 1), lit(0)))
        sort = self.pick(self.number, self.number, self.row, self.thing)
        return sort(levels)

    def let(self, levels):
        sort = self.pick((NUMBERS, self.number), (ROWS, self.row), (THINGS, self.thing))
        return ("let", self.pick(*sort[0]), sort[1](levels))

    def statement(self, levels):
        part = min(levels - 1, 4)
        if levels < 5 or self.chance.random() < 0.6:
            return self.pick(
                self.let(part), self.let(part), ("do", self.any(part)), ("give", self.number(part)),
                ("set", self.thing(2), lit(self.pick("own", "p", "n")), self.number(part)),
                ("set", self.thing(2), lit("next"), self.thing(part)))
        block, other = self.block(levels - 1, 2), self.block(levels - 1, 2)
        if self.chance.random() < 0.5:
            count = ("let", "x", ("sub", ("name", "x"), lit(1)))
            return ("while", ("less", lit(0), ("name", "x")), block + (count,))
        return ("if", self.number(part), block, other)

    def block(self, levels, most=5):
        return tuple(self.statement(levels) for _ in range(self.chance.randrange(most)))

    def deed(self, title):
        params = (("by", "a"), ("or", "b", 2), ("onlyor", "x", 3), ("onlyor", "t", None))
        head = (("let", "r", ("row", (ME, ("name", "a")))), ("let", "s", ("row", ())), ("let", "u", ME),
                ("if", ("name", "t"), (), (("let", "t", ME),)))
        while True:
            made = (title, params, head + self.block(6, 6) + (("give", ("name", "a")),))
            if is_deed(made):
                return made
