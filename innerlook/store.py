"""The store: all things by their numbers, what they have, and what their names meet.

Each sort of thing has a record of its own under Record. Things of a store are
told apart by the words of their records alone, so that other sorts may come.
"""

from innerlook.errors import Fault, NoKind, NoList, NoRows, NoStore, NoThing, NoWorth
from innerlook.params import are_args
from innerlook.trees import check_deed
from innerlook.worths import are_names, are_rows, check_name, is_whole, is_worth, put_otherwise, things_in

MOST_THINGS = 200
MOST_LISTED = 6
FIRST_KINDS = ("all", "kinds", "deeds", "frames")
ALL = ("thing", 0)
# Of which of the first kinds things of other sorts than plain ones are.
KINDS_OF_SORTS = {"kind": 1, "deed": 2, "wrap": 2, "frame": 3}
FRONTS = ("stand", "view")


class Record:
    """What a thing has: of no sort, until a record under it says more."""

    def sort_word(self):
        """The sort, a text."""
        return ""

    def told(self):
        """All that the thing has, a tuple."""
        return ()

    def twin(self):
        """Another record that has the same."""
        return Record()

    def moved(self, numbers):
        """Put the things to which it leads otherwise, by a dict from numbers to numbers."""


class PlainRecord(Record):
    """A plain thing: its kind and its rows."""

    def __init__(self, kind, rows):
        self.own_kind = kind
        self.own_rows = rows

    def sort_word(self):
        return "plain"

    def told(self):
        return self.own_kind, tuple(self.own_rows.items())

    def twin(self):
        return PlainRecord(self.own_kind, dict(self.own_rows))

    def moved(self, numbers):
        self.own_kind = put_otherwise(self.own_kind, numbers)
        self.own_rows = _rows_put_otherwise(self.own_rows, numbers)


class KindRecord(Record):
    """A kind: its title, the kind above it or None, what it wants and shares, and its rows."""

    def __init__(self, title, above, wants, shares, rows):
        self.own_title = title
        self.own_above = above
        self.own_wants = wants
        self.own_shares = shares
        self.own_rows = rows

    def sort_word(self):
        return "kind"

    def told(self):
        rows = tuple(self.own_rows.items())
        return self.own_title, self.own_above, self.own_wants, self.own_shares, rows

    def twin(self):
        rows = dict(self.own_rows)
        return KindRecord(self.own_title, self.own_above, self.own_wants, self.own_shares, rows)

    def moved(self, numbers):
        self.own_above = put_otherwise(self.own_above, numbers)
        self.own_rows = _rows_put_otherwise(self.own_rows, numbers)


class DeedRecord(Record):
    """A deed: its tree, in which no things stand."""

    def __init__(self, tree):
        self.tree = tree

    def sort_word(self):
        return "deed"

    def told(self):
        return (self.tree,)

    def twin(self):
        return DeedRecord(self.tree)

    def moved(self, numbers):
        """Nothing: a deed leads to no things."""


def _rows_put_otherwise(rows, numbers):
    """Rows with all things in them put otherwise."""
    return {name: put_otherwise(worth, numbers) for name, worth in rows.items()}


class Store:
    """All things, numbered from 0; the first four are kinds that never change."""

    def __init__(self):
        self.things = []
        for title in FIRST_KINDS:
            self.added(KindRecord(title, ALL if self.things else None, (), (), {}))

    def plain(self, kind, *, rows=None):
        """Make a plain thing."""
        if not self.may_have_things(kind):
            raise NoKind(kind)
        given = self.rows_given(rows)
        lacking = self.first_lacking(kind, given)
        if lacking is not None:
            raise Fault("wants", lacking)
        return self.added(PlainRecord(kind, given))

    def kind(self, title, *, above=None, wants=(), shares=(), rows=None):
        """Make a kind, beneath `all` where nothing else is told."""
        check_name(title)
        if above is not None and not self.may_have_things(above):
            raise NoKind(above)
        check_listed(wants)
        check_listed(shares)
        given = self.rows_given(rows)
        return self.added(KindRecord(title, ALL if above is None else above, tuple(wants), tuple(shares), given))

    def deed(self, deed):
        """Make a deed of its tree."""
        check_deed(deed)
        return self.added(DeedRecord(deed))

    def sort_of(self, thing):
        """The sort of a thing."""
        return self.record(thing).sort_word()

    def kind_of(self, thing):
        """The kind of a thing."""
        record = self.record(thing)
        sort = record.sort_word()
        if sort == "plain":
            return record.own_kind
        if sort not in KINDS_OF_SORTS:
            raise Fault("wrong", thing)
        return "thing", KINDS_OF_SORTS[sort]

    def rows(self, thing):
        """The own rows of a plain thing or a kind."""
        return dict(self._record_with_rows(thing).own_rows)

    def title_of(self, kind):
        """The title of a kind."""
        return self._record_of_kind(kind).own_title

    def above(self, kind):
        """The kind above a kind."""
        return self._record_of_kind(kind).own_above

    def wants(self, kind):
        """The names that a kind itself wants."""
        return self._record_of_kind(kind).own_wants

    def shares(self, kind):
        """The names that a kind itself shares."""
        return self._record_of_kind(kind).own_shares

    def deed_of(self, thing):
        """The tree of a deed."""
        record = self.record(thing)
        if record.sort_word() != "deed":
            raise Fault("wrong", thing)
        return record.tree

    def __len__(self):
        return len(self.things)

    def twin(self):
        """Another Store that has the same."""
        store = Store()
        store.lay(self)
        return store

    def __eq__(self, other):
        return isinstance(other, Store) and self._told() == other._told()

    def _told(self):
        """All that all things have."""
        return [(record.sort_word(), record.told()) for record in self.things]

    def met(self, thing, name):
        """What a name meets in a thing, (whose, worth), or None."""
        holders = self._holders(thing)
        check_name(name)
        for whose in holders:
            rows = self.record(whose).own_rows
            if name in rows:
                return whose, rows[name]
        return None

    def names(self, thing):
        """All names that meet something in a thing."""
        return list({name: True for whose in self._holders(thing) for name in self.record(whose).own_rows})

    def is_beneath(self, kind, other):
        """Whether a kind is the other one, or beneath it."""
        self._record_of_kind(kind)
        self._record_of_kind(other)
        return other in self._upward(kind)

    def put(self, thing, name, worth):
        """Set a row of a thing."""
        record = self.record(thing)
        check_name(name)
        if not self.holds(worth):
            raise NoWorth(worth)
        self.check_changes(thing)
        record.own_rows[name] = worth

    def drop(self, thing, name):
        """Drop a row of a thing."""
        record = self.record(thing)
        check_name(name)
        self.check_changes(thing)
        if name not in record.own_rows:
            raise Fault("lacks", name)
        if record.sort_word() == "plain" and name in self.wanted_names(record.own_kind):
            raise Fault("wants", name)
        del record.own_rows[name]

    def turn(self, thing, kind):
        """Turn a plain thing to another kind."""
        record = self.record(thing)
        self.record(kind)
        if record.sort_word() != "plain":
            raise Fault("wrong", thing)
        if not self.may_have_things(kind):
            raise Fault("wrong", kind)
        lacking = self.first_lacking(kind, record.own_rows)
        if lacking is not None:
            raise Fault("wants", lacking)
        record.own_kind = kind

    def lay(self, other):
        """Have from now on what another Store has."""
        check_store(other)
        self.things = [record.twin() for record in other.things]

    def record(self, thing):
        """The record of a thing: what is changed in it is changed in the Store."""
        if not self.has_thing(thing):
            raise NoThing(thing)
        return self.things[thing[1]]

    def added(self, record):
        """Make a new thing of its record."""
        if len(self.things) >= MOST_THINGS:
            raise Fault("full", MOST_THINGS)
        self.things.append(record)
        return "thing", len(self.things) - 1

    def has_thing(self, thing):
        """Whether something is a thing of this Store."""
        if not isinstance(thing, tuple) or len(thing) != 2 or thing[0] != "thing":
            return False
        return is_whole(thing[1], 0, len(self.things) - 1)

    def holds(self, worth):
        """Whether something is a worth of which all things are there."""
        return is_worth(worth) and all([number < len(self.things) for number in things_in(worth)])

    def holds_args(self, args):
        """Whether something is a list of args of which all things are there."""
        return are_args(args) and all([self.holds(worth) for worth in args])

    def holds_rows(self, rows):
        """Whether something is rows of which all things are there."""
        return are_rows(rows) and all([self.holds(worth) for worth in rows.values()])

    def args_given(self, args):
        """Args that are handed in, a tuple."""
        if not self.holds_args(args):
            raise NoList(args)
        return tuple(args)

    def rows_given(self, rows):
        """Rows that are handed in, a dict of their own, empty where None is."""
        if rows is None:
            return {}
        if not self.holds_rows(rows):
            raise NoRows(rows)
        return dict(rows)

    def never_changes(self, thing):
        """Whether a thing is one of the first four."""
        return thing[1] < len(FIRST_KINDS)

    def may_have_things(self, kind):
        """Whether something is a kind of which plain things are made, and kinds beneath it."""
        return self.is_kind(kind) and (kind == ALL or not self.never_changes(kind))

    def wanted_names(self, kind):
        """All names that a kind and those above it want, from the kind up, a list."""
        return [name for one in self._upward(kind) for name in self.record(one).own_wants]

    def shared_names(self, kind):
        """All names that a kind and those above it share, likewise."""
        return [name for one in self._upward(kind) for name in self.record(one).own_shares]

    def first_lacking(self, kind, rows):
        """The first name that a kind, or one above it, wants and rows lack, or None."""
        lacking = [name for name in self.wanted_names(kind) if name not in rows]
        return lacking[0] if lacking else None

    def is_kind(self, thing):
        """Whether something is a kind of this Store."""
        return self.has_thing(thing) and self.sort_of(thing) == "kind"

    def _record_of_kind(self, kind):
        """The record of a kind."""
        if not self.is_kind(kind):
            raise NoKind(kind)
        return self.record(kind)

    def _record_with_rows(self, thing):
        """The record of a plain thing or a kind."""
        record = self.record(thing)
        if record.sort_word() not in ("plain", "kind"):
            raise Fault("wrong", thing)
        return record

    def check_changes(self, thing):
        """Come to a fault with a thing of which no rows are set or dropped."""
        if self.never_changes(thing):
            raise Fault("barred", thing)
        self._record_with_rows(thing)

    def _upward(self, kind):
        """A kind and all kinds above it, from it up."""
        kinds = []
        while kind is not None:
            kinds.append(kind)
            kind = self.record(kind).own_above
        return kinds

    def _holders(self, thing):
        """The things in which a name that is asked of a thing is looked for, in their order."""
        record = self.record(thing)
        sort = record.sort_word()
        if sort in FRONTS:
            raise Fault("wrong", thing)
        if sort == "kind":
            return self._upward(thing)
        return [thing] + self._upward(record.own_kind) if sort == "plain" else []


def is_listed(thing):
    """Whether something is a list of names that a kind may want or share."""
    return are_names(thing, MOST_LISTED)


def check_listed(thing):
    """Refuse what is no such list."""
    if not is_listed(thing):
        raise NoList(thing)


def check_store(thing):
    """Refuse what is no Store."""
    if not isinstance(thing, Store):
        raise NoStore(thing)
