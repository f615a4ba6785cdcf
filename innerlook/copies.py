"""Copies: of what a thing shows, and of all plain things to which that leads."""

from innerlook.errors import Fault
from innerlook.fronts import bare_worth, base_of, check_there, led, shown
from innerlook.store import MOST_THINGS, PlainRecord
from innerlook.worths import MOST_ROWS, put_otherwise, things_in


class Copying:
    """All plain things that are copied with a first one, of which the rows that it shows are copied."""

    def __init__(self, store, first, shown_first):
        self.in_store = store
        self.first = first
        self.shown_first = shown_first

    def elders(self):
        """The numbers of all that are copied, in the order in which they are met."""
        met = {}
        waiting = [self.first[1]]
        while waiting:
            number = waiting.pop()
            if number not in met:
                met[number] = True
                waiting.extend(list(reversed(self._led_to(number))))
        return list(met)

    def copy_of(self, number, numbers):
        """The record of a copy, in which copies stand in the place of their elders."""
        shared = self._shared_names(number)
        rows = self._rows(number)
        for name in list(rows):
            if name not in shared:
                rows[name] = put_otherwise(bare_worth(self.in_store, rows[name]), numbers)
        return PlainRecord(self.in_store.kind_of(("thing", number)), rows)

    def _rows(self, number):
        """The rows of which those of a copy are made."""
        thing = ("thing", number)
        return dict(self.shown_first) if thing == self.first else self.in_store.rows(thing)

    def _shared_names(self, number):
        """The names of rows that lead a thing and its copy to the same."""
        return self.in_store.shared_names(self.in_store.kind_of(("thing", number)))

    def _led_to(self, number):
        """The numbers of all plain things that are copied because the rows of this one lead there."""
        shared = self._shared_names(number)
        worths = [worth for name, worth in self._rows(number).items() if name not in shared]
        found = [inner for worth in worths for inner in things_in(bare_worth(self.in_store, worth))]
        return [inner for inner in found if self.in_store.sort_of(("thing", inner)) == "plain"]


def shown_rows(store, thing):
    """The rows that a thing shows as its own, a dict."""
    check_there(store, thing)
    base = base_of(store, thing)
    if store.sort_of(base) not in ("plain", "kind"):
        raise Fault("wrong", thing)
    rows = {}
    for name in shown(store, thing):
        found = led(store, thing, name)
        if found[0] == "given":
            rows[name] = found[1]
        elif found[3] == base:
            rows[name] = found[4]
    return rows


def _check_many(rows):
    """Come to a fault with more rows than a thing is made with."""
    if len(rows) > MOST_ROWS:
        raise Fault("many", len(rows))


def copied(store, thing):
    """Make a copy of what a thing shows."""
    rows = shown_rows(store, thing)
    base = base_of(store, thing)
    if store.never_changes(base):
        raise Fault("barred", thing)
    _check_many(rows)
    if store.sort_of(base) == "plain":
        return store.plain(store.kind_of(base), rows=rows)
    wants, shares = store.wants(base), store.shares(base)
    return store.kind(store.title_of(base), above=store.above(base), wants=wants, shares=shares, rows=rows)


def copied_deep(store, thing):
    """Make a copy of what a thing shows, and of all plain things to which that leads."""
    rows = shown_rows(store, thing)
    base = base_of(store, thing)
    if store.sort_of(base) != "plain":
        raise Fault("wrong", thing)
    _check_many(rows)
    lacking = store.first_lacking(store.kind_of(base), rows)
    if lacking is not None:
        raise Fault("wants", lacking)
    copying = Copying(store, base, rows)
    elders = copying.elders()
    if len(store) + len(elders) > MOST_THINGS:
        raise Fault("full", MOST_THINGS)
    pairs = [(elder, len(store) + at) for at, elder in enumerate(elders)]
    numbers = {elder: new for elder, new in pairs}
    copies = [store.added(copying.copy_of(elder, numbers)) for elder in elders]
    return copies[0], pairs
