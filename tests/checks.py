"""What several tests use."""

from innerlook.errors import Fault

PERCENT = chr(37)

# Things that are no worths, no names, no rows, of every kind that may be handed in.
STRANGE_THINGS = (True, False, (), [], {}, [1], (1,), {"a": 1}, ("thing",), ("thing", 1, 1), ["thing", 1],
                  ("thing", -1), ("thing", 1000), ("thing", True), ("thing", "1"), ("thing", None),
                  ("row",), ("row", ()) + ((),), ["row", ()], ("row", []), ("row", {}), ("row", 1),
                  ("row", (True,)), ("row", ([],)), ("other", ()), ("other", 1), (1, 1), (None, None),
                  ([], ()), ({}, 1), (("thing", 1), 1), 10 ** 9 + 1, -10 ** 9 - 1, 10 ** 29,
                  "a'b", PERCENT, "\n", "\x1f", "\x7f", "\u00e9", "a" * 61, [[[]]], {1: []})


def row(*parts):
    return ("row", tuple(parts))


def nested(levels, inmost=()):
    """So many rows within one another."""
    worth = ("row", tuple(inmost))
    for _ in range(levels - 1):
        worth = row(worth)
    return worth


def names(many):
    """So many unlike names, a list."""
    return ["n" + chr(97 + at // 26) + chr(97 + at % 26) for at in range(many)]


class Checks:
    """Mixed in to a TestCase: refusals, with the very thing that was found."""

    def refused(self, error, found, call, *args, **named):
        with self.assertRaises(error) as caught:
            call(*args, **named)
        self.assertIs(caught.exception.__class__, error)
        self.assertIs(caught.exception.found, found)

    def faulty(self, fault, why, found, call, *args, **named):
        with self.assertRaises(fault) as caught:
            call(*args, **named)
        self.assertEqual(caught.exception.why, why)
        self.assertEqual(caught.exception.found, found)
        self.assertIs(caught.exception.found.__class__, found.__class__)
        return caught.exception

    def fault(self, why, found, call, *args, **named):
        """A Fault of this word and of an equal thing of the same kind."""
        return self.faulty(Fault, why, found, call, *args, **named)

    def fault_of_very(self, why, found, call, *args, **named):
        """A Fault of this word and of the very thing."""
        self.assertIs(self.fault(why, found, call, *args, **named).found, found)

    def keeps(self, store, call, *args, **named):
        """What is told, or refused, while a Store stays as it was."""
        before = store.twin()
        try:
            return call(*args, **named)
        finally:
            self.assertTrue(store == before)
