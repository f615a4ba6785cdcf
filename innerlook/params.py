"""Rows of parameters: what they are, what a call gives them, and which calls they take."""

from innerlook.errors import Fault, NoList, NoNumber, NoParams, NoRows, NoText
from innerlook.worths import are_names, are_rows, is_name, is_plain_worth, is_whole, is_worth
from innerlook.worths import name_at, series_at, worth_at, worth_text

MOST_PARAMS = 6
MOST_ARGS = 20
MOST_NAMES = 30
# Which parameters stand ahead of which: none stands behind one of a later place.
PLACES = {"by": 0, "or": 1, "rest": 2, "only": 3, "onlyor": 3}
BY_PLACE = ("by", "or")
WITH_WORTH = ("or", "onlyor")


def is_params(thing):
    """Whether a thing is a row of parameters."""
    if not isinstance(thing, tuple) or len(thing) > MOST_PARAMS:
        return False
    return all([_is_param(param) for param in thing]) and _is_in_order(thing)


def _is_param(thing):
    """Whether a thing is a parameter, wherever it stands."""
    if not isinstance(thing, tuple) or len(thing) < 2:
        return False
    word, name = thing[0], thing[1]
    if not isinstance(word, str) or word not in PLACES or not is_name(name):
        return False
    if word in WITH_WORTH:
        return len(thing) == 3 and is_plain_worth(thing[2])
    return len(thing) == 2


def _is_in_order(params):
    """Whether parameters stand as they may, at most one rest, no name twice."""
    words = [param[0] for param in params]
    places = [PLACES[word] for word in words]
    names = [param[1] for param in params]
    return places == sorted(places) and words.count("rest") <= 1 and len(set(names)) == len(names)


def _check_params(thing):
    """Refuse what is no row of parameters."""
    if not is_params(thing):
        raise NoParams(thing)


def matched(params, args, named):
    """The worths that a call gives the parameters, a dict by all their names in their order."""
    _check_params(params)
    if not are_args(args):
        raise NoList(args)
    if not are_rows(named):
        raise NoRows(named)
    given = _given_by_place(params, args)
    _add_named(params, named, given)
    return _filled(params, given)


def are_args(thing):
    """Whether a thing is a list of at most twenty worths."""
    if not isinstance(thing, (list, tuple)) or len(thing) > MOST_ARGS:
        return False
    return all([is_worth(worth) for worth in thing])


def _given_by_place(params, args):
    """The worths by place, a dict by names; those left over go to rest, as a row."""
    names = [param[1] for param in params if param[0] in BY_PLACE]
    left = ("row", tuple(args[len(names):]))
    rests = [param[1] for param in params if param[0] == "rest"]
    if len(args) > len(names) and (not rests or not is_worth(left)):
        raise Fault("many", len(args))
    given = {name: worth for name, worth in zip(names, args)}
    for name in rests:
        given[name] = left
    return given


def _add_named(params, named, given):
    """Put the worths by names among those that are given by place."""
    names = [param[1] for param in params if param[0] != "rest"]
    for name, worth in named.items():
        if name not in names:
            raise Fault("strange", name)
        if name in given:
            raise Fault("twice", name)
        given[name] = worth


def _filled(params, given):
    """All worths in the order of the parameters, with their own ones where none is given."""
    filled = {}
    for param in params:
        name = param[1]
        if name in given:
            filled[name] = given[name]
        elif param[0] in WITH_WORTH:
            filled[name] = param[2]
        else:
            raise Fault("lacks", name)
    return filled


def params_text(params):
    """A row of parameters as it is written."""
    _check_params(params)
    return "(" + " ".join([_param_text(param) for param in params]) + ")"


def _param_text(param):
    """A parameter as it is written."""
    word, name = param[0], param[1]
    if word == "rest":
        return name + ".."
    ahead = "" if word in BY_PLACE else "*"
    behind = "=" + worth_text(param[2]) if word in WITH_WORTH else ""
    return ahead + name + behind


def read_params(text):
    """The row of parameters that a text writes."""
    if not isinstance(text, str):
        raise NoText(text)
    found = params_at(text, 0)
    if found is None or found[1] != len(text):
        raise NoParams(text)
    return found[0]


def params_at(text, at):
    """The row of parameters that is written from this place on, and the place behind it, or None."""
    if not text.startswith("(", at):
        return None
    found = series_at(text, at + 1, ")", _param_at)
    if found is None:
        return None
    params = tuple(found[0])
    return (params, found[1]) if is_params(params) else None


def _param_at(text, at):
    """The parameter that is written from this place on, and the place behind it, or None."""
    by_name = text.startswith("*", at)
    found = name_at(text, at + 1 if by_name else at)
    if found is None:
        return None
    name, end = found
    if text.startswith("=", end):
        return _param_with_worth_at(text, end + 1, "onlyor" if by_name else "or", name)
    if text.startswith("..", end) and not by_name:
        return ("rest", name), end + 2
    return ("only" if by_name else "by", name), end


def _param_with_worth_at(text, at, word, name):
    """The parameter of which the own worth is written from this place on."""
    found = worth_at(text, at)
    return None if found is None else ((word, name, found[0]), found[1])


def names_of(params):
    """The names of the parameters, a tuple."""
    _check_params(params)
    return tuple([param[1] for param in params])


def range_of(params):
    """How many args must go by place, and how many may, None where there is no end to them."""
    _check_params(params)
    words = [param[0] for param in params]
    fewest = words.count("by")
    return fewest, None if "rest" in words else fewest + words.count("or")


def takes(params, many, names):
    """Whether the parameters take a call of so many args and of these names."""
    _check_params(params)
    if not is_whole(many, 0, MOST_ARGS):
        raise NoNumber(many)
    if not are_names(names, MOST_NAMES):
        raise NoList(names)
    return _takes(params, many, names)


def _takes(params, many, names):
    """Likewise, of what was looked at."""
    try:
        matched(params, [0] * many, {name: 0 for name in names})
    except Fault:
        return False
    return True


def parting_call(one, other):
    """A call that one of two rows takes and the other doesn't, (how many args, names), or None."""
    _check_params(one)
    _check_params(other)
    # Beyond the most parameters one arg more changes nothing: only rest takes it.
    for many in range(MOST_PARAMS + 2):
        for names in _ends(one, many) + _ends(other, many):
            if _parts(one, other, many, names):
                return many, names
    return None


def _ends(params, many):
    """The fewest and the most names that go with so many args.

    Just the sets of names between these two ends are taken. So where two rows
    take other sets, an end of the one is no set that the other takes.
    """
    waiting = [param for param in params if param[0] in BY_PLACE][many:]
    waiting = waiting + [param for param in params if PLACES[param[0]] == PLACES["only"]]
    fewest = [param[1] for param in waiting if param[0] not in WITH_WORTH]
    return [fewest, [param[1] for param in waiting]]


def _parts(one, other, many, names):
    """Whether just one of two rows takes a call."""
    return _takes(one, many, names) != _takes(other, many, names)


def shows_parting(one, other, thing):
    """Whether a thing is a call, (how many args, names), that just one of two rows takes."""
    _check_params(one)
    _check_params(other)
    if not isinstance(thing, tuple) or len(thing) != 2:
        return False
    many, names = thing
    if not is_whole(many, 0, MOST_ARGS) or not are_names(names, MOST_NAMES):
        return False
    return _parts(one, other, many, names)
