"""Deeds and other trees for tests: one of each form, and ones that are put together by chance numbers."""

import random

from innerlook.deedtext import read_deed
from innerlook.trees import LOOKS

ONE = ("lit", 1)
X = ("name", "x")
ME = ("me",)

# One of each form, with all that may stand in it.
EACH_EXPRESSION = (
    ("lit", 0), ("lit", -10 ** 9), ("lit", "a text"), ("lit", None), X, ME, ("here",),
    ("add", ONE, X), ("sub", ONE, X), ("less", ONE, X), ("same", ONE, X),
    ("row", ()), ("row", (ONE, X, ME)), ("part", X, ONE), ("size", X), ("get", ME, ("lit", "a")),
    ("call", ME, ("lit", "a"), (), ()), ("call", ME, X, (ONE, X), (("a", ONE), ("b", X))),
    ("new", X, ()), ("new", X, (("a", ONE), ("b", ME))), ("onward", (), ()), ("onward", (ONE,), (("a", X),)),
) + tuple(("look", word, (ME, X)[:many]) for word, many in LOOKS.items())
EACH_STATEMENT = (
    ("let", "x", ONE), ("set", ME, ("lit", "a"), X), ("do", X), ("give", ONE), ("if", X, (), ()),
    ("if", X, (("do", ONE),), ()), ("if", X, (), (("give", ME),)), ("if", X, (("do", ONE),), (("do", X), ("give", X))),
    ("while", X, ()), ("while", X, (("do", ONE), ("give", X))),
)


def sums(levels, inmost=ONE):
    """An expression of so many levels, two parts more with each."""
    tree = inmost
    for _ in range(levels - 1):
        tree = ("add", tree, ONE)
    return tree


def shells(levels, inmost, word="while"):
    """A statement within so many others."""
    for _ in range(levels):
        inmost = ("while", ONE, (inmost,)) if word == "while" else ("if", ("lit", 0), (), (inmost,))
    return inmost


def wide(many):
    """A block of so many parts, 2 to 400, in few statements."""
    left, statements = many, []
    while left > 0:
        parts = min(left, 38)
        if left - parts == 1:
            parts -= 1
        statements.append(("do", _row_of(parts - 1)))
        left -= parts
    return tuple(statements)


def _row_of(many):
    """An expression of so many parts, 1 to 37."""
    if many == 1:
        return ONE
    args, left = [], many - 1
    while left > 0:
        inner = min(left, 6)
        args.append(("row", (ONE,) * (inner - 1)))
        left -= inner
    return ("row", tuple(args))


def deed(text):
    """A deed of rows that are parted by ` / `."""
    return read_deed(text.replace(" / ", "\n"))


class Chance:
    """Trees by chance numbers, always the same for one seed."""

    def __init__(self, seed):
        self.numbers = random.Random(seed)

    def name(self):
        return "".join(self.numbers.choice("abxmeno") for _ in range(self.numbers.choice((1, 1, 1, 5, 8))))

    def lit(self):
        texts = ("", "a b", "(x", "y)", "=", "a=1", " ", "[#1]", "end", "~!")
        return ("lit", self.numbers.choice((0, 1, -7, 10 ** 9, None) + texts))

    def expression(self, levels):
        """An expression of at most so many levels."""
        if levels == 1 or self.numbers.random() < 0.3:
            return self.numbers.choice((self.lit(), ("name", self.name()), ME, ("here",), ("row", ())))
        one = [self.expression(levels - 1) for _ in range(4)]
        args = tuple(one[:self.numbers.randrange(3)])
        named = tuple((word, one[3]) for word in sorted({self.name() for _ in range(self.numbers.randrange(3))}))
        word = self.numbers.choice(list(LOOKS))
        return self.numbers.choice((
            ("add", one[0], one[1]), ("sub", one[0], one[1]), ("less", one[0], one[1]), ("same", one[0], one[1]),
            ("row", args), ("part", one[0], one[1]), ("size", one[2]), ("get", one[0], one[1]),
            ("call", one[0], one[1], args, named), ("new", one[0], named), ("onward", args, named),
            ("look", word, tuple(one[:LOOKS[word]]))))

    def block(self, levels, most=3):
        """A block of at most so many statements, of at most so many levels."""
        return tuple(self.statement(levels) for _ in range(self.numbers.randrange(most + 1)))

    def statement(self, levels):
        """A statement of two to so many levels."""
        tree = self.expression(min(levels - 1, 4))
        plain = (("let", self.name(), tree), ("set", ME, tree, tree), ("do", tree), ("give", tree))
        if levels < 4 or self.numbers.random() < 0.5:
            return self.numbers.choice(plain)
        if self.numbers.random() < 0.5:
            return ("while", tree, self.block(levels - 1))
        return ("if", tree, self.block(levels - 1), self.block(levels - 1))

    def deed(self):
        """A deed with some parameters."""
        params = self.numbers.choice(((), (("by", "a"),), (("or", "a", 1), ("rest", "b"), ("onlyor", "c", "x y"))))
        return (self.name(), params, self.block(6, most=5))
