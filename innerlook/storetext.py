"""Stores as texts: how a Store is written, and the Store that a text writes."""

from innerlook.deedtext import OpenDeed, deed_text
from innerlook.errors import NoRow, NoText, Unfit
from innerlook.fronts import Stand, are_rules
from innerlook.rowtext import listed_rows, names_behind, rule_at, rule_text, thing_at, way_at, way_text
from innerlook.rowtext import whole, worth_row, worth_row_text
from innerlook.store import ALL, FIRST_KINDS, MOST_LISTED, MOST_THINGS
from innerlook.store import DeedRecord, KindRecord, PlainRecord, Store, check_store
from innerlook.views import View, are_asks, are_shown_names
from innerlook.worths import is_name, worth_text
from innerlook.wraps import WITH_DEED, Wrap


def store_text(store):
    """A Store as it is written."""
    check_store(store)
    for number, record in enumerate(store.things):
        if record.sort_word() == "frame":
            raise Unfit(("thing", number))
    return "\n".join([row for record in store.things[len(FIRST_KINDS):] for row in _rows_of(record)])


def _rows_of(record):
    """The rows of a thing, a list."""
    sort = record.sort_word()
    if sort == "plain":
        return ["plain " + worth_text(record.own_kind)] + _own_rows(record)
    if sort == "kind":
        head = "kind " + record.own_title + " " + worth_text(record.own_above)
        return [head] + listed_rows(record.own_wants, record.own_shares) + _own_rows(record)
    if sort == "deed":
        return [deed_text(record.tree), "done"]
    if sort == "wrap":
        return ["wrap " + way_text(record.way()) + " " + worth_text(record.inner())]
    if sort == "stand":
        return ["stand " + worth_text(record.behind())] + ["rule " + rule_text(rule) for rule in record.own_rules]
    return ["view " + worth_text(record.behind())] + _view_rows(record)


def _own_rows(record):
    """The rows of the own rows of a plain thing or a kind."""
    return [worth_row_text(name, worth) for name, worth in record.own_rows.items()]


def _view_rows(record):
    """The rows of what a view lets through, and whether it is taken back."""
    rows = []
    if record.own_names is not None:
        rows.append(" ".join(["names", *record.own_names]))
    if record.own_asks is not None:
        rows.append(" ".join(["asks", *record.own_asks]))
    return rows + ["taken"] if record.taken else rows


class OpenStore:
    """A Store that is being read, row by row: what it leads to is looked at when it is whole."""

    def __init__(self):
        self.made_store = Store()
        self.open_deed = None

    def takes_row(self, row):
        """Whether the Store goes on with this row, which is taken then."""
        if self.open_deed is not None:
            return self._takes_deed_row(row)
        return self._takes_further(row) or self._takes_thing(row)

    def is_whole(self):
        """Whether the Store may end here."""
        return self.open_deed is None

    def _takes_deed_row(self, row):
        """Likewise, of a row of the deed that is being read, or behind it."""
        if row == "done" and self.open_deed.is_whole():
            self.made_store.added(DeedRecord(self.open_deed.deed()))
            self.open_deed = None
            return True
        bare = row.strip(" ")
        return not bare or self.open_deed.takes_row(bare)

    def _takes_thing(self, row):
        """Likewise, of the first row of a thing."""
        if len(self.made_store) == MOST_THINGS:
            return False
        if row.startswith("deed "):
            reading = OpenDeed()
            if not reading.takes_row(row.rstrip(" ")):
                return False
            self.open_deed = reading
            return True
        record = _record_of_row(row)
        if record is not None:
            self.made_store.added(record)
        return record is not None

    def _takes_further(self, row):
        """Likewise, of a row that tells more of the last thing."""
        record = self.made_store.things[-1]
        sort = record.sort_word()
        if len(self.made_store) == len(FIRST_KINDS):
            return False
        if sort in ("plain", "kind"):
            return (sort == "kind" and _takes_listed(record, row)) or _takes_own_row(record, row)
        if sort == "stand":
            return self._takes_rule(record, row)
        return sort == "view" and _takes_view_row(record, row)

    def _takes_rule(self, record, row):
        """Likewise, of a rule."""
        found = whole(row, rule_at(row, 5)) if row.startswith("rule ") else None
        if not are_rules(record.own_rules + (found,)):
            return False
        self.made_store.things[-1] = Stand(record.behind(), record.own_rules + (found,))
        return True


def _record_of_row(row):
    """The record of a thing that is no deed, of its first row, or None."""
    word, *parts = row.split(" ")
    things = [whole(part, thing_at(part, 0)) for part in parts[-1:]]
    if not things or things[0] is None or len(parts) != (2 if word in ("kind", "wrap") else 1):
        return None
    if word == "plain":
        return PlainRecord(things[0], {})
    if word == "kind":
        return KindRecord(parts[0], things[0], (), (), {}) if is_name(parts[0]) else None
    if word == "wrap":
        way = whole(parts[0], way_at(parts[0], 0))
        return None if way is None else Wrap(way, things[0])
    if word == "stand":
        return Stand(things[0], ())
    return View(things[0], None, None) if word == "view" else None


def _takes_listed(record, row):
    """Whether a kind goes on with this row of what it wants or shares, which is taken then."""
    wants = names_behind(row, "wants", MOST_LISTED)
    if wants is not None and not (record.own_wants or record.own_shares or record.own_rows):
        record.own_wants = wants
        return True
    shares = names_behind(row, "shares", MOST_LISTED)
    if shares is not None and not (record.own_shares or record.own_rows):
        record.own_shares = shares
        return True
    return False


def _takes_own_row(record, row):
    """Whether a plain thing or a kind goes on with this own row, which is taken then."""
    found = worth_row(row)
    if found is None or found[0] in record.own_rows:
        return False
    record.own_rows[found[0]] = found[1]
    return True


def _takes_view_row(record, row):
    """Whether a view goes on with this row, which is taken then."""
    word, *words = row.split(" ")
    told = tuple(words)
    if record.taken:
        return False
    if row == "taken":
        record.taken = True
        return True
    if word == "names" and record.own_names is None and record.own_asks is None and are_shown_names(told):
        record.own_names = told
        return True
    if word == "asks" and record.own_asks is None and are_asks(told):
        record.own_asks = told
        return True
    return False


def read_store(text):
    """The Store that a text writes."""
    if not isinstance(text, str):
        raise NoText(text)
    reading = OpenStore()
    rows = text.split("\n") if text else []
    for at, row in enumerate(rows):
        if not reading.takes_row(row):
            raise NoRow(at)
    if not reading.is_whole():
        raise NoRow(len(rows))
    store = reading.made_store
    for number in range(len(FIRST_KINDS), len(store)):
        if not _is_fit(store, ("thing", number)):
            raise Unfit(("thing", number))
    return store


def _is_fit(store, thing):
    """Whether a thing leads to what may be there alone, and lacks nothing."""
    if not _leads_on_well(store, thing):
        return False
    record = store.record(thing)
    sort = record.sort_word()
    if sort in ("plain", "kind") and not all([store.holds(worth) for worth in record.own_rows.values()]):
        return False
    if sort == "plain":
        return store.first_lacking(record.own_kind, record.own_rows) is None
    if sort == "stand":
        return all([store.holds(rule[2]) for rule in record.own_rules if rule[0] == "give"])
    if sort == "wrap" and record.way()[0] in WITH_DEED:
        return _is_of_sort(store, record.way()[1], ("deed",))
    return True


def _is_of_sort(store, thing, sorts):
    """Whether a thing is there, and of one of these sorts."""
    return store.has_thing(thing) and store.sort_of(thing) in sorts


def _leads_on_well(store, thing):
    """Whether a thing leads on, by what it is of or before, to an end, and to what may be there alone."""
    gone_through = {}
    while thing != ALL and store.sort_of(thing) != "deed":
        if thing in gone_through:
            return False
        gone_through[thing] = True
        record = store.record(thing)
        ahead = _next_one(store, record)
        if ahead is None:
            return False
        thing = ahead
    return True


def _next_one(store, record):
    """The thing right ahead of one that is no deed, or None where it may not be there."""
    sort = record.sort_word()
    if sort in ("plain", "kind"):
        kind = record.own_kind if sort == "plain" else record.own_above
        # The first four lead on to one another, as they may.
        return kind if store.may_have_things(kind) else None
    if sort == "wrap":
        return record.inner() if _is_of_sort(store, record.inner(), ("deed", "wrap")) else None
    return record.behind() if store.has_thing(record.behind()) else None
