"""What is alike: worths that are the same but for plain things which stand for one another."""

from innerlook.errors import NoWorth
from innerlook.store import check_store
from innerlook.worths import is_row


def alike(store, one, other):
    """The fewest pairs of plain things by which two worths are alike, rising, or None."""
    _check(store, one, other)
    pairs, seconds = {}, {}
    waiting = [(one, other)]
    while waiting:
        first, second = waiting.pop()
        if _are_plain(store, first, second):
            if pairs.get(first[1]) == second[1]:
                continue
            if first[1] in pairs or second[1] in seconds:
                return None
            pairs[first[1]] = second[1]
            seconds[second[1]] = True
        further = _further(store, first, second)
        if further is None:
            return None
        waiting.extend(further)
    return sorted([(first, second) for first, second in pairs.items()])


def shows_alike(store, one, other, thing):
    """Whether a thing is a list of pairs that hold, by which two worths are alike."""
    _check(store, one, other)
    if not isinstance(thing, list) or not all([_is_pair(store, pair) for pair in thing]):
        return False
    pairs = {first: second for first, second in thing}
    if len(pairs) != len(thing) or len(set([second for _, second in thing])) != len(thing):
        return False
    return _are_alike_by(store, one, other, pairs) and all([_holds(store, pair, pairs) for pair in thing])


def _check(store, one, other):
    """Refuse what is no Store, and what are no worths of it."""
    check_store(store)
    for worth in (one, other):
        if not store.holds(worth):
            raise NoWorth(worth)


def _is_plain(store, worth):
    """Whether a worth is a plain thing."""
    return store.has_thing(worth) and store.sort_of(worth) == "plain"


def _are_plain(store, first, second):
    """Whether both worths are plain things."""
    return _is_plain(store, first) and _is_plain(store, second)


def _further(store, first, second):
    """The pairs of worths that must be alike where these two are, or None where they can't be."""
    if _are_plain(store, first, second):
        return _further_rows(store, first, second)
    if is_row(first) and is_row(second) and len(first[1]) == len(second[1]):
        return list(zip(first[1], second[1]))
    return [] if first == second else None


def _further_rows(store, first, second):
    """Likewise, of plain things: what stands in their rows, by the same names."""
    rows, others = store.rows(first), store.rows(second)
    if store.kind_of(first) != store.kind_of(second) or sorted(list(rows)) != sorted(list(others)):
        return None
    return [(rows[name], others[name]) for name in rows]


def _is_pair(store, thing):
    """Whether a thing is a tuple of the numbers of two plain things."""
    if not isinstance(thing, tuple) or len(thing) != 2:
        return False
    return _are_plain(store, ("thing", thing[0]), ("thing", thing[1]))


def _holds(store, pair, pairs):
    """Whether a pair holds by the pairs."""
    further = _further_rows(store, ("thing", pair[0]), ("thing", pair[1]))
    return further is not None and all([_are_alike_by(store, one, other, pairs) for one, other in further])


def _are_alike_by(store, one, other, pairs):
    """Whether two worths are alike by pairs, of which it is not looked at whether they hold."""
    waiting = [(one, other)]
    while waiting:
        first, second = waiting.pop()
        if _are_plain(store, first, second):
            if pairs.get(first[1]) != second[1]:
                return False
            continue
        further = _further(store, first, second)
        if further is None:
            return False
        waiting.extend(further)
    return True
