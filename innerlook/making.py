"""Making while things live: deeds and kinds of texts, things in the place of others, and what kinds want anew."""

from innerlook.deedtext import OpenDeed, deed_text, read_deed, read_rows
from innerlook.errors import Fault, NoKind, NoList, Unfit
from innerlook.plain import run_deed
from innerlook.rowtext import listed_rows, names_behind, worth_row, worth_row_text
from innerlook.store import MOST_LISTED, MOST_THINGS, check_listed, check_store
from innerlook.trees import check_deed
from innerlook.worths import MOST_ROWS, check_name, is_row, things_in
from innerlook.wraps import deeds_of_ways, layers


def deed_made(store, thing, name, text):
    """Make a deed of its text and put it in a row of a thing."""
    check_store(store)
    store.record(thing)
    check_name(name)
    tree = read_deed(text)
    store.check_changes(thing)
    made = store.deed(tree)
    store.put(thing, name, made)
    return made


class OpenKind:
    """A kind that is being read, row by row, for a Store.

    What its rows are to hold stands in a list of (name, worth, deed): the deed is
    None, or the one that is being read, or was, and is to be a thing in the worth's place.
    """

    def __init__(self, store):
        self.in_store = store
        self.own_title = None
        self.own_wants = None
        self.own_shares = None
        self.held = []
        self.in_deed = False

    def takes_row(self, row):
        """Whether the kind goes on with this row, which is taken then."""
        if self.in_deed:
            return self._takes_deed_row(row)
        if self.own_title is None:
            return self._takes_title(row)
        return self._takes_wants(row) or self._takes_shares(row) or self._takes_worth(row) or self._takes_deed(row)

    def _takes_title(self, row):
        """Likewise, of the first row."""
        found = names_behind(row, "kind", 1)
        if found is not None:
            self.own_title = found[0]
        return found is not None

    def _takes_wants(self, row):
        """Likewise, of the names that it wants, ahead of all but its title."""
        found = names_behind(row, "wants", MOST_LISTED)
        if found is None or self.own_wants is not None or self.own_shares is not None or self.held:
            return False
        self.own_wants = found
        return True

    def _takes_shares(self, row):
        """Likewise, of the names that it shares, ahead of its rows."""
        found = names_behind(row, "shares", MOST_LISTED)
        if found is None or self.own_shares is not None or self.held:
            return False
        self.own_shares = found
        return True

    def _takes_worth(self, row):
        """Likewise, of a name and its worth."""
        found = worth_row(row)
        return found is not None and self.in_store.holds(found[1]) and self._takes_name(found[0], found[1], None)

    def _takes_deed(self, row):
        """Likewise, of a name behind which a deed begins."""
        found = names_behind(row, "row", 1)
        if found is None or not self._takes_name(found[0], None, OpenDeed()):
            return False
        self.in_deed = True
        return True

    def _takes_name(self, name, worth, deed):
        """Likewise, of a name and what stands there."""
        if len(self.held) == MOST_ROWS or name in [told[0] for told in self.held]:
            return False
        self.held.append((name, worth, deed))
        return True

    def _takes_deed_row(self, row):
        """Likewise, of a row of the deed that is being read, or behind it."""
        deed = self.held[-1][2]
        if row == "done" and deed.is_whole():
            self.in_deed = False
            return True
        return deed.takes_row(row)

    def is_whole(self):
        """Whether the kind may end here."""
        return self.own_title is not None and not self.in_deed

    def made(self, above):
        """The kind, made beneath another one, all its deeds ahead of it."""
        deeds = [told for told in self.held if told[2] is not None]
        if len(self.in_store) + len(deeds) >= MOST_THINGS:
            raise Fault("full", MOST_THINGS)
        rows = {}
        for name, worth, deed in self.held:
            rows[name] = worth if deed is None else self.in_store.deed(deed.deed())
        wants, shares = self.own_wants or (), self.own_shares or ()
        return self.in_store.kind(self.own_title, above=above, wants=wants, shares=shares, rows=rows)


def kind_made(store, above, text):
    """Make a kind of its text, beneath another one."""
    check_store(store)
    store.record(above)
    if not store.may_have_things(above):
        raise NoKind(above)
    reading = OpenKind(store)
    read_rows(text, reading)
    return reading.made(above)


def kind_text(store, kind):
    """A kind as it is written, without the one above it."""
    check_store(store)
    store.record(kind)
    rows = ["kind " + store.title_of(kind)] + listed_rows(store.wants(kind), store.shares(kind))
    held = store.rows(kind)
    for worth in held.values():
        if things_in(worth) and (is_row(worth) or store.sort_of(worth) != "deed"):
            raise Unfit(worth)
    for name, worth in held.items():
        if things_in(worth):
            rows.extend(["row " + name, deed_text(store.deed_of(worth)), "done"])
        else:
            rows.append(worth_row_text(name, worth))
    return "\n".join(rows)


def exchanged(store, one, other):
    """Let another thing be wherever the one was led to, and tell how many things changed."""
    check_store(store)
    store.record(one)
    store.record(other)
    _check_exchange(store, one, other)
    before = store.twin()
    for record in store.things:
        record.moved({one[1]: other[1]})
    _check_wants(store, before)
    return len([1 for record, elder in zip(store.things, before.things) if record.told() != elder.told()])


def _check_exchange(store, one, other):
    """Come to a fault with things of which the other can't be in the one's place."""
    sorts = (store.sort_of(one), store.sort_of(other))
    if sorts != ("plain", "plain") and sorts != ("kind", "kind") and not all([_is_called(sort) for sort in sorts]):
        raise Fault("wrong", other)
    for thing in (one, other):
        if store.never_changes(thing):
            raise Fault("barred", thing)
    if one != other and _rests_on(store, other, one):
        raise Fault("wrong", other)


def _is_called(sort):
    """Whether things of this sort are called."""
    return sort in ("deed", "wrap")


def _rests_on(store, one, other):
    """Whether something would rest on itself if it stood in the place of the other."""
    if store.is_kind(one):
        return store.is_beneath(one, other)
    if store.sort_of(one) != "wrap":
        return False
    return other in layers(store, one) or other in deeds_of_ways(store)


def _check_wants(store, before):
    """Lay the Store back where a plain thing lacks what its kind, or one above, wants."""
    lacking = _first_lacking(store)
    if lacking is not None:
        store.lay(before)
        raise Fault("wants", lacking)


def _first_lacking(store):
    """The first name that the first plain thing lacks to which one is lacking, or None."""
    for record in store.things:
        if record.sort_word() == "plain":
            lacking = store.first_lacking(record.own_kind, record.own_rows)
            if lacking is not None:
                return lacking
    return None


def told_anew(store, kind, *, wants=None, shares=None):
    """Let a kind want, or share, other names, each left as it is by None."""
    check_store(store)
    store.record(kind)
    if not store.is_kind(kind):
        raise NoKind(kind)
    for names in (wants, shares):
        if names is not None:
            check_listed(names)
    if store.never_changes(kind):
        raise Fault("barred", kind)
    before = store.twin()
    record = store.record(kind)
    if wants is not None:
        record.own_wants = tuple(wants)
    if shares is not None:
        record.own_shares = tuple(shares)
    _check_wants(store, before)


def first_unlike(store, thing, one, other, calls):
    """The number of the first call by which two deeds differ, or None."""
    check_store(store)
    store.record(thing)
    check_deed(one)
    check_deed(other)
    if not isinstance(calls, (list, tuple)) or not all([_is_call(store, call) for call in calls]):
        raise NoList(calls)
    for at, call in enumerate(calls):
        if not _are_same(_end_of(store, thing, one, call), _end_of(store, thing, other, call)):
            return at
    return None


def _is_call(store, thing):
    """Whether something is a tuple of args and named ones for a call."""
    if not isinstance(thing, tuple) or len(thing) != 2:
        return False
    return store.holds_args(thing[0]) and store.holds_rows(thing[1])


def _end_of(store, thing, deed, call):
    """What a call of a deed comes to on a twin of the Store: a tuple, and the twin."""
    twin = store.twin()
    try:
        return ("told", run_deed(twin, thing, deed, args=call[0], named=call[1])), twin
    except Fault as fault:
        return ("fault", fault.why, fault.found), twin


def _are_same(one, other):
    """Whether two ends of calls are the same, and the Stores that they leave behind."""
    return one[0] == other[0] and one[1] == other[1]
