"""Views: fronts that let through a part of the names and of the asks, until they are taken back."""

from innerlook.errors import Fault, NoAsk, NoList
from innerlook.fronts import Front, base_of, chain, fronts_ahead
from innerlook.store import check_store
from innerlook.trees import LOOKS
from innerlook.worths import are_names

MOST_SHOWN = 20
# The words of asks besides those of a look.
OTHER_ASKS = ("get", "set", "new", "call", "text")


class View(Front):
    """A view: the names and the words that it lets through, each None for all, and whether it is taken back."""

    def __init__(self, back, names, asks):
        Front.__init__(self, back)
        self.own_names = names
        self.own_asks = asks
        self.taken = False

    def sort_word(self):
        return "view"

    def told(self):
        return self.back, self.own_names, self.own_asks, self.taken

    def twin(self):
        other = View(self.back, self.own_names, self.own_asks)
        other.taken = self.taken
        return other

    def leads(self, name):
        return ("on", name) if self._lets_name(name) else ("barred", name)

    def front_shown(self, names):
        return [name for name in names if self._lets_name(name)]

    def lets_word(self, word):
        return self.own_asks is None or word in self.own_asks

    def is_taken(self):
        return self.taken

    def _lets_name(self, name):
        """Whether a name is let through."""
        return self.own_names is None or name in self.own_names


def is_ask(thing):
    """Whether a thing is a word of an ask."""
    return isinstance(thing, str) and (thing in LOOKS or thing in OTHER_ASKS)


def view(store, thing, *, names=None, asks=None):
    """Make a view of a thing."""
    check_store(store)
    store.record(thing)
    if not are_shown_names(names):
        raise NoList(names)
    if not _is_tuple_of_unlike(asks):
        raise NoList(asks)
    if not are_asks(asks):
        raise NoAsk(_words_that_are_none(asks)[0])
    return store.added(View(thing, names, asks))


def are_shown_names(thing):
    """Whether a thing is a tuple of names that a view may let through, or None."""
    return thing is None or (isinstance(thing, tuple) and are_names(thing, MOST_SHOWN))


def are_asks(thing):
    """Whether a thing is a tuple of words of asks, none of them twice, or None."""
    return _is_tuple_of_unlike(thing) and (thing is None or not _words_that_are_none(thing))


def _is_tuple_of_unlike(thing):
    """Whether a thing is a tuple of unlike things, or None."""
    return thing is None or (isinstance(thing, tuple) and not _holds_twice(thing))


def _words_that_are_none(asks):
    """What in a tuple is no word of an ask, a list."""
    return [word for word in asks if not is_ask(word)]


def _holds_twice(things):
    """Whether one thing stands in a tuple of any things twice."""
    for at, one in enumerate(things):
        # For Python 1 and True are equal; here they are two things.
        same = [other for other in things[at + 1:] if other == one and isinstance(other, bool) == isinstance(one, bool)]
        if same:
            return True
    return False


def _record_of_view(store, thing):
    """The record of a view."""
    check_store(store)
    record = store.record(thing)
    if not isinstance(record, View):
        raise Fault("wrong", thing)
    return record


def take_back(store, view):
    """Take back a view for ever, and tell whether it wasn't yet."""
    record = _record_of_view(store, view)
    was_there = not record.taken
    record.taken = True
    return was_there


def is_gone(store, thing):
    """Whether a view that is taken back stands among the fronts from a thing on."""
    return any([record.is_taken() for record in chain(store, thing)[:-1]])


def barring(store, thing, word):
    """The first view from a thing on that doesn't let through asks by this word, or None."""
    fronts = fronts_of(store, thing)
    if not is_ask(word):
        raise NoAsk(word)
    bars = [front for front in fronts if not store.record(front).lets_word(word)]
    return bars[0] if bars else None


def view_of(store, view):
    """What is behind a view, its names, its words, and whether it is taken back."""
    record = _record_of_view(store, view)
    return record.behind(), record.own_names, record.own_asks, record.taken


def fronts_of(store, thing):
    """All fronts from a thing on, a list of things."""
    return fronts_ahead(store, thing)[:-1]


def is_narrower(store, one, other):
    """Whether a view lets through nothing that another one of the same base doesn't let through."""
    check_store(store)
    store.record(one)
    store.record(other)
    views, other_views = _views_alone(store, one), _views_alone(store, other)
    if base_of(store, one) != base_of(store, other):
        return False
    return _are_fewer(_names_through(views), _names_through(other_views)) and _are_fewer(
        _words_through(views), _words_through(other_views))


def _views_alone(store, thing):
    """The records of a view and of all fronts behind it, which must be views, too."""
    records = chain(store, thing)[:-1]
    if not records or not all([isinstance(record, View) for record in records]):
        raise Fault("wrong", thing)
    return records


def _names_through(views):
    """The names that go through all of these views, a list, or None where all names do."""
    kept = [record.own_names for record in views if record.own_names is not None]
    if not kept:
        return None
    return [name for name in kept[0] if all([name in names for names in kept])]


def _words_through(views):
    """The words of asks that go through all of these views, a list."""
    words = list(LOOKS) + list(OTHER_ASKS)
    return [word for word in words if all([record.lets_word(word) for record in views])]


def _are_fewer(some, others):
    """Whether all of some are among others, each None for all names."""
    if others is None:
        return True
    return some is not None and all([name in others for name in some])
