"""Wraps: things that stand in a row in the place of a deed, and do more, or less, than to run it."""

from innerlook.errors import Fault, NotThere, NoWay, Unfit
from innerlook.params import takes
from innerlook.store import Record, check_store
from innerlook.worths import check_name, is_thing, is_whole, put_otherwise

MOST_OFTEN = 99
# The words of the ways that have a deed of their own.
WITH_DEED = ("before", "behind", "around")


class Wrap(Record):
    """The record of a wrap: its way, what it is put on, and what it remembers.

    What is remembered are the calls that are left, of `often`; of `kept` a list
    of tuples (me, args, named, answer), in which no stand without rules stands
    but in the answers; None else.
    """

    def __init__(self, way, inner):
        self.own_way = way
        self.own_inner = inner
        self.memory = None
        if way[0] == "often":
            self.memory = way[1]
        elif way[0] == "kept":
            self.memory = []

    def sort_word(self):
        return "wrap"

    def way(self):
        """Its way."""
        return self.own_way

    def inner(self):
        """The deed or wrap right within."""
        return self.own_inner

    def takes_one(self):
        """Of often, whether a call is left, which is taken then."""
        if self.memory == 0:
            return False
        self.memory -= 1
        return True

    def answer_to(self, me, args, named):
        """Of kept, a tuple of the first answer that is remembered to such a call, or None."""
        for kept_me, kept_args, kept_named, answer in self.memory:
            if (kept_me, kept_args, kept_named) == (me, tuple(args), named):
                return (answer,)
        return None

    def keep_answer(self, me, args, named, answer):
        """Of kept, remember the answer to a call."""
        self.memory.append((me, tuple(args), dict(named), answer))

    def remembers(self):
        """What it remembers, as a new value."""
        if self.own_way[0] != "kept":
            return self.memory
        return [(me, args, dict(named), answer) for me, args, named, answer in self.memory]

    def put_on_another(self, inner):
        """Put it on another deed or wrap."""
        self.own_inner = inner

    def told(self):
        return self.own_way, self.own_inner, self.remembers()

    def twin(self):
        other = Wrap(self.own_way, self.own_inner)
        other.memory = self.remembers()
        return other

    def moved(self, numbers):
        self.own_inner = put_otherwise(self.own_inner, numbers)
        if self.own_way[0] in WITH_DEED:
            self.own_way = (self.own_way[0], put_otherwise(self.own_way[1], numbers))


def is_way(thing):
    """Whether a thing is a way."""
    if thing == ("kept",):
        return True
    if not isinstance(thing, tuple) or len(thing) != 2:
        return False
    if thing[0] == "often":
        return is_whole(thing[1], 0, MOST_OFTEN)
    return thing[0] in WITH_DEED and is_thing(thing[1])


def put_on(store, thing, name, way):
    """Put a new wrap on the deed or wrap in an own row of a thing."""
    check_store(store)
    store.record(thing)
    check_name(name)
    if not is_way(way):
        raise NoWay(way)
    if way[0] in WITH_DEED:
        store.record(way[1])
    store.check_changes(thing)
    inner = _in_row(store, thing, name)
    if inner is None:
        raise NotThere(name)
    if way[0] in WITH_DEED:
        _check_fits(store, way, inner)
    wrap = store.added(Wrap(way, inner))
    store.put(thing, name, wrap)
    return wrap


def _in_row(store, thing, name):
    """The deed or wrap that stands in an own row of a thing, or None."""
    if store.sort_of(thing) not in ("plain", "kind"):
        return None
    worth = store.rows(thing).get(name)
    if not store.has_thing(worth) or store.sort_of(worth) not in ("deed", "wrap"):
        return None
    return worth


def _check_fits(store, way, inner):
    """Refuse a way of which the deed is none, or can't be called as it says."""
    word, deed = way
    params = store.deed_of(deed)[1]
    if word == "behind":
        fits = takes(params, 1, ())
    else:
        fits = params == store.deed_of(inmost(store, inner))[1]
    if not fits:
        raise Unfit(deed)


def take_off(store, thing, name, wrap):
    """Take a wrap off: what it is put on stands in its place then."""
    check_store(store)
    store.record(thing)
    check_name(name)
    store.record(wrap)
    wraps = layers(store, _in_row(store, thing, name))[:-1]
    if wrap not in wraps:
        raise NotThere(wrap)
    inner = store.record(wrap).inner()
    at = wraps.index(wrap)
    if at == 0:
        store.put(thing, name, inner)
    else:
        store.record(wraps[at - 1]).put_on_another(inner)


def layers(store, one):
    """The wraps from a deed or wrap on, the outermost first, and the deed within all; none for None."""
    found = []
    while one is not None:
        found.append(one)
        one = store.record(one).inner() if store.sort_of(one) == "wrap" else None
    return found


def deeds_of_ways(store):
    """The deeds that wraps have by their ways, a list."""
    ways = [record.way() for record in store.things if isinstance(record, Wrap)]
    return [way[1] for way in ways if way[0] in WITH_DEED]


def inmost(store, one):
    """The deed within a deed or wrap."""
    check_store(store)
    return layers(store, one)[-1]


def wraps_on(store, thing, name):
    """All wraps of an own row, the outermost first, a list."""
    return _layers_in_row(store, thing, name)[:-1]


def deed_within(store, thing, name):
    """The deed within all wraps of an own row."""
    return _layers_in_row(store, thing, name)[-1]


def _layers_in_row(store, thing, name):
    """The wraps of an own row, and the deed within all."""
    check_store(store)
    store.record(thing)
    check_name(name)
    found = layers(store, _in_row(store, thing, name))
    if not found:
        raise NotThere(name)
    return found


def way_of(store, wrap):
    """The way of a wrap."""
    return _record_of_wrap(store, wrap).way()


def inner_of(store, wrap):
    """The deed or wrap right within a wrap."""
    return _record_of_wrap(store, wrap).inner()


def remembered(store, wrap):
    """What a wrap remembers: a number of often, a list of kept, else None."""
    return _record_of_wrap(store, wrap).remembers()


def _record_of_wrap(store, wrap):
    """The record of a wrap."""
    check_store(store)
    record = store.record(wrap)
    if not isinstance(record, Wrap):
        raise Fault("wrong", wrap)
    return record
