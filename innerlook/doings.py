"""Doings: what is done to a Store, as tuples of a word and of what the function of that word is handed."""

from innerlook.asks import ASKS, ask
from innerlook.errors import Barred, Fault, InnerError, Missing, NoAsk, NoList
from innerlook.fronts import are_rules, stand
from innerlook.machine import called
from innerlook.making import exchanged, told_anew
from innerlook.params import are_args
from innerlook.store import check_store, is_listed
from innerlook.trees import is_deed
from innerlook.views import are_asks, are_shown_names, take_back, view
from innerlook.worths import are_rows, is_name, is_thing, is_worth
from innerlook.wraps import is_way, put_on, take_off

MOST_DOINGS = 100
# What stands behind the word of each doing, part by part.
FORMS = {
    "plain": ("thing", "rows"), "kind": ("name", "above", "listed", "listed", "rows"), "deed": ("deed",),
    "stand": ("thing", "rules"), "view": ("thing", "names", "asks"), "takeback": ("thing",),
    "ask": ("thing", "word", "things"), "call": ("thing", "name", "args", "rows"), "wrap": ("thing", "name", "way"),
    "unwrap": ("thing", "name", "thing"), "exchange": ("thing", "thing"), "anew": ("thing", "anew", "anew"),
}


def is_doing(thing):
    """Whether something is a doing."""
    if not isinstance(thing, tuple) or not thing:
        return False
    word = thing[0]
    if not isinstance(word, str) or word not in FORMS or len(thing) != 1 + len(FORMS[word]):
        return False
    if not all([_fits(what, part) for what, part in zip(FORMS[word], thing[1:])]):
        return False
    return word != "ask" or _are_things(thing[2], thing[3])


def _fits(what, part):
    """Whether a part has its form; the things of an ask hang on its word, and are looked at with it."""
    if what in ("above", "anew", "names", "asks") and part is None:
        return True
    if what in ("thing", "above"):
        return is_thing(part)
    if what == "name":
        return is_name(part)
    if what == "rows":
        return are_rows(part)
    return _fits_seldom(what, part)


def _fits_seldom(what, part):
    """Likewise, of parts that stand in one or two doings alone."""
    if what in ("listed", "anew"):
        return isinstance(part, tuple) and is_listed(part)
    if what == "args":
        return isinstance(part, tuple) and are_args(part)
    if what == "deed":
        return is_deed(part)
    if what == "rules":
        return are_rules(part)
    if what == "way":
        return is_way(part)
    if what == "names":
        return are_shown_names(part)
    if what == "asks":
        return are_asks(part)
    return what == "things" or (isinstance(part, str) and part in ASKS)


def _are_things(word, things):
    """Whether something is a tuple of what a thing is asked with by this word."""
    if not isinstance(things, tuple) or len(things) != ASKS[word] - 1:
        return False
    return all([are_rows(thing) if word == "new" else is_worth(thing) for thing in things])


def _plain(store, kind, rows):
    return store.plain(kind, rows=rows)


def _kind(store, title, above, wants, shares, rows):
    return store.kind(title, above=above, wants=wants, shares=shares, rows=rows)


def _deed(store, deed):
    return store.deed(deed)


def _stand(store, thing, rules):
    return stand(store, thing, rules)


def _view(store, thing, names, asks):
    return view(store, thing, names=names, asks=asks)


def _take_back(store, thing):
    return take_back(store, thing)


def _ask(store, thing, word, things):
    return ask(store, thing, word, things)


def _call(store, thing, name, args, named):
    return called(store, thing, name, args=args, named=named)


def _wrap(store, thing, name, way):
    return put_on(store, thing, name, way)


def _unwrap(store, thing, name, wrap):
    return take_off(store, thing, name, wrap)


def _exchange(store, one, other):
    return exchanged(store, one, other)


def _anew(store, kind, wants, shares):
    return told_anew(store, kind, wants=wants, shares=shares)


# What is done for each word.
DONE = {
    "plain": _plain, "kind": _kind, "deed": _deed, "stand": _stand, "view": _view, "takeback": _take_back,
    "ask": _ask, "call": _call, "wrap": _wrap, "unwrap": _unwrap, "exchange": _exchange, "anew": _anew,
}


def done(store, doing):
    """What a doing tells, done to a Store."""
    check_store(store)
    if not is_doing(doing):
        raise NoAsk(doing)
    word, *told = doing
    action = DONE[word]
    return action(store, *told)


def done_all(store, doings):
    """What doings tell that are done one behind the other, or that, and how, they are refused."""
    check_store(store)
    if not isinstance(doings, (list, tuple)) or len(doings) > MOST_DOINGS:
        raise NoList(doings)
    return [_end_of(store, doing) for doing in doings]


def _end_of(store, doing):
    """What a doing comes to, a tuple."""
    try:
        return "told", done(store, doing)
    except Fault as fault:
        return "fault", fault.why, fault.found
    except (InnerError, Missing, Barred):
        return ("refused",)
