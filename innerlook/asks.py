"""Asks: the one door through which all things are asked, from outside and by programs."""

from innerlook.alike import alike
from innerlook.copies import copied, copied_deep
from innerlook.deedtext import deed_text
from innerlook.errors import Fault, NoAsk, NoList, NoRows, NoWorth
from innerlook.fronts import base_of, behind, check_there, road, shown, shown_through, stand
from innerlook.params import names_of
from innerlook.store import check_store
from innerlook.views import MOST_SHOWN, barring, view
from innerlook.worths import are_names, check_name, is_name, is_row, is_worth
from innerlook.wraps import inmost

# All words but `call`, with how many things each is asked with, the thing too.
ASKS = {
    "has": 2, "drop": 2, "names": 1, "kind": 1, "turn": 2, "owner": 2, "under": 2, "title": 1, "above": 1,
    "params": 1, "copy": 1, "deep": 1, "sort": 1, "within": 1, "alike": 2, "made": 2, "stand": 1, "narrow": 2,
    "get": 2, "set": 3, "new": 2, "text": 1,
}
WITH_NAME = ("has", "drop", "owner", "get", "set", "call", "made")
WITH_KIND = ("turn", "under")


class Asking:
    """An ask for which nothing bars the way: the asked thing, what it is asked with, and its base."""

    def __init__(self, store, thing, things):
        self.in_store = store
        self.thing = thing
        self.things = things
        self.base = base_of(store, thing)
        self.base_sort = store.sort_of(self.base)

    def base_record(self):
        """The record of the base."""
        return self.in_store.record(self.base)

    def led_on(self, counts=True):
        """Where the name that is asked is led, as `road` tells, but never barred."""
        found = road(self.in_store, self.thing, self.things[0], counts=counts)
        if found[0] == "barred":
            raise Fault("barred", found[1])
        return found

    def met(self, counts=True):
        """What the name that is asked meets, (whose, worth), or None; a given worth is the asked thing's."""
        found = self.led_on(counts)
        if found[0] == "given":
            return self.thing, found[1]
        if found[0] == "nowhere":
            return None
        return self._met_in_base(found[2])

    def _met_in_base(self, name):
        """What a name meets in the base, likewise."""
        if self.base_sort != "frame":
            return self.in_store.met(self.base, name)
        worths = self.base_record().worths()
        return (self.base, worths[name]) if name in worths else None

    def answer(self, counts=True):
        """What the name that is asked meets, likewise, where it meets something."""
        found = self.met(counts)
        if found is None:
            raise Fault("lacks", self.things[0])
        return found

    def own_name(self):
        """The name that the base itself has for the one that is to be set or dropped."""
        found = self.led_on()
        if found[0] == "given":
            raise Fault("barred", self.things[0])
        if found[0] == "nowhere":
            raise Fault("lacks", self.things[0])
        return found[2]

    def check_sort(self, *sorts):
        """Come to a fault where the base is of none of these sorts."""
        if self.base_sort not in sorts:
            raise Fault("wrong", self.thing)

    def deed_tree(self):
        """The deed of a base that is a frame, or a deed or wrap."""
        if self.base_sort == "frame":
            return self.base_record().deed()
        return self.in_store.deed_of(inmost(self.in_store, self.base))


def _has(asking):
    return 0 if asking.met() is None else 1


def _get(asking):
    return asking.answer()[1]


def _set(asking):
    name = asking.own_name()
    if asking.base_sort != "frame":
        asking.in_store.put(asking.base, name, asking.things[1])
    elif name in asking.base_record().worths():
        asking.base_record().put_worth(name, asking.things[1])
    else:
        raise Fault("lacks", asking.things[0])


def _drop(asking):
    name = asking.own_name()
    if asking.base_sort == "frame":
        raise Fault("barred", asking.things[0])
    asking.in_store.drop(asking.base, name)


def _owner(asking):
    whose = asking.answer()[0]
    return asking.thing if whose == asking.base else whose


def _names(asking):
    if asking.base_sort == "frame":
        names = shown_through(asking.in_store, asking.thing, list(asking.base_record().worths()))
    else:
        names = shown(asking.in_store, asking.thing)
    return _row_of_names(names)


def _row_of_names(names):
    """A row of these names."""
    row = ("row", tuple(names))
    if not is_worth(row):
        raise Fault("many", len(names))
    return row


def _kind(asking):
    return asking.in_store.kind_of(asking.base)


def _turn(asking):
    asking.in_store.turn(asking.base, base_of(asking.in_store, asking.things[0]))


def _under(asking):
    kind = asking.base if asking.base_sort == "kind" else asking.in_store.kind_of(asking.base)
    return 1 if asking.in_store.is_beneath(kind, base_of(asking.in_store, asking.things[0])) else 0


def _title(asking):
    asking.check_sort("kind", "deed", "wrap", "frame")
    if asking.base_sort == "kind":
        return asking.in_store.title_of(asking.base)
    return asking.deed_tree()[0]


def _above(asking):
    asking.check_sort("kind", "frame")
    if asking.base_sort == "kind":
        return asking.in_store.above(asking.base)
    return asking.base_record().caller(asking.in_store)


def _params(asking):
    asking.check_sort("deed", "wrap", "frame")
    return _row_of_names(names_of(asking.deed_tree()[1]))


def _text(asking):
    asking.check_sort("deed", "wrap")
    return deed_text(asking.deed_tree())


def _copy(asking):
    return copied(asking.in_store, asking.thing)


def _deep(asking):
    return copied_deep(asking.in_store, asking.thing)[0]


def _check_may_have_things(asking):
    """Come to a fault where the base is no kind of which things, and kinds beneath it, are made."""
    if not asking.in_store.may_have_things(asking.base):
        raise Fault("wrong", asking.thing)


def _new(asking):
    _check_may_have_things(asking)
    return asking.in_store.plain(asking.base, rows=asking.things[0])


def _made(asking):
    _check_may_have_things(asking)
    return asking.in_store.kind(asking.things[0], above=asking.base)


def _sort(asking):
    return asking.in_store.sort_of(asking.thing)


def _within(asking):
    sort = _sort(asking)
    if sort == "stand":
        return behind(asking.in_store, asking.thing)
    if sort == "wrap":
        return asking.base_record().inner()
    if sort == "frame":
        return asking.base_record().me()
    raise Fault("wrong", asking.thing)


def _alike(asking):
    return 0 if alike(asking.in_store, asking.thing, asking.things[0]) is None else 1


def _stand(asking):
    return stand(asking.in_store, asking.thing)


def _narrow(asking):
    return view(asking.in_store, asking.thing, names=asking.things[0][1])


# What is done for each word.
DONE = {
    "has": _has, "drop": _drop, "names": _names, "kind": _kind, "turn": _turn, "owner": _owner, "under": _under,
    "title": _title, "above": _above, "params": _params, "copy": _copy, "deep": _deep, "sort": _sort,
    "within": _within, "alike": _alike, "made": _made, "stand": _stand, "narrow": _narrow, "get": _get, "set": _set,
    "new": _new, "text": _text,
}


def ask(store, thing, word, things=()):
    """Ask a thing by a word, from outside."""
    check_store(store)
    store.record(thing)
    if not isinstance(word, str) or word not in ASKS:
        raise NoAsk(word)
    _check_things(store, word, things)
    before = store.twin()
    try:
        return asked_within(store, thing, word, list(things))
    except Fault:
        store.lay(before)
        raise


def _check_things(store, word, things):
    """Refuse what is no list of as many worths as the word takes, or, of `new`, of rows."""
    if not isinstance(things, (list, tuple)) or len(things) != ASKS[word] - 1:
        raise NoList(things)
    for worth in things:
        if word == "new" and not store.holds_rows(worth):
            raise NoRows(worth)
        if word != "new" and not store.holds(worth):
            raise NoWorth(worth)


def asked_within(store, thing, word, things):
    """What an ask tells of what was looked at; where it comes to a fault the Store may be changed."""
    if things:
        _check_second(store, word, things[0])
    _go_through(store, thing, word)
    if word in WITH_KIND:
        _go_through(store, things[0], word)
    action = DONE[word]
    return action(Asking(store, thing, things))


def _check_second(store, word, second):
    """Come to a fault with a second thing that isn't what the word wants."""
    fits = True
    if word in WITH_NAME:
        fits = is_name(second)
    elif word in WITH_KIND:
        fits = store.has_thing(second) and store.is_kind(base_of(store, second))
    elif word == "narrow":
        fits = is_row(second) and are_names(second[1], MOST_SHOWN)
    if not fits:
        raise Fault("wrong", second)


def _go_through(store, thing, word):
    """Come to a fault with a thing that is gone, or that no ask by this word goes through to."""
    check_there(store, thing)
    base = store.record(base_of(store, thing))
    if base.sort_word() == "frame" and base.is_over():
        raise Fault("gone", thing)
    if barring(store, thing, word) is not None:
        raise Fault("barred", word)


def deed_met(store, thing, name):
    """The deed or wrap that a call of this name runs; nothing is counted."""
    check_store(store)
    store.record(thing)
    check_name(name)
    return _met_by_call(store, thing, name, False)


def met_within(store, thing, name):
    """Likewise, of what was looked at, the name being counted."""
    return _met_by_call(store, thing, name, True)


def _met_by_call(store, thing, name, counts):
    """Likewise, the name being counted or not."""
    _check_second(store, "call", name)
    _go_through(store, thing, "call")
    worth = Asking(store, thing, [name]).answer(counts)[1]
    if not store.has_thing(worth):
        raise Fault("wrong", worth)
    _go_through(store, worth, "call")
    base = base_of(store, worth)
    if store.sort_of(base) not in ("deed", "wrap"):
        raise Fault("wrong", worth)
    return base
