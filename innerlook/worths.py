"""Worths and names: what they are, how they are written and read, and what is reckoned with them.

Readers that end in `_at` read from a place in a text. They tell a tuple of what
stands there and the place behind it, or None where no such thing stands there.
"""

from innerlook.errors import Fault, NoName, NoRows, NoText, NoWorth

MOST_NUMBER = 1_000_000_000
MOST_THING = 999
MOST_NAME = 8
MOST_TEXT = 60
MOST_PARTS = 30
MOST_ROWS = 30
MOST_WITHIN = 4
# No number within the bounds has more figures.
MOST_FIGURES = 10
FIGURES = "0123456789"
# The percent sign, by its number: the sign itself may not stand in a string here.
PERCENT = 37
NOT_NAMES = ("me", "here", "none")


def is_whole(thing, low, high):
    """Whether a thing is a whole number from low to high."""
    return isinstance(thing, int) and not isinstance(thing, bool) and low <= thing <= high


def is_name(thing):
    """Whether a thing is a name."""
    if not isinstance(thing, str) or not 1 <= len(thing) <= MOST_NAME:
        return False
    return thing not in NOT_NAMES and all(["a" <= sign <= "z" for sign in thing])


def check_name(thing):
    """Refuse what is no name."""
    if not is_name(thing):
        raise NoName(thing)


def is_text(thing):
    """Whether a thing is a text as a worth may be."""
    if not isinstance(thing, str) or len(thing) > MOST_TEXT:
        return False
    return all([" " <= sign <= "~" and sign != "'" and ord(sign) != PERCENT for sign in thing])


def is_plain_worth(thing):
    """Whether a thing is a number, a text or None, as a worth may be."""
    return thing is None or is_text(thing) or is_whole(thing, -MOST_NUMBER, MOST_NUMBER)


def is_worth(thing):
    """Whether a thing is a worth."""
    return _is_worth_within(thing, MOST_WITHIN)


def _is_worth_within(thing, levels):
    """Whether a thing is a worth with at most so many rows within one another."""
    if is_plain_worth(thing):
        return True
    if not isinstance(thing, tuple) or len(thing) != 2:
        return False
    word, held = thing
    if word == "thing":
        return is_whole(held, 0, MOST_THING)
    if word != "row" or levels == 0 or not isinstance(held, tuple) or len(held) > MOST_PARTS:
        return False
    return all([_is_worth_within(part, levels - 1) for part in held])


def is_number(worth):
    """Whether a worth is a number."""
    return isinstance(worth, int)


def is_row(worth):
    """Whether a worth is a row."""
    return isinstance(worth, tuple) and worth[0] == "row"


def is_thing(thing):
    """Whether something is a worth that is a thing, in whatever Store."""
    return isinstance(thing, tuple) and is_worth(thing) and thing[0] == "thing"


def says_yes(worth):
    """Whether a worth says yes."""
    _check_worth(worth)
    return worth is not None and worth != 0


def _check_worth(thing):
    """Refuse what is no worth."""
    if not is_worth(thing):
        raise NoWorth(thing)


def worth_text(worth):
    """A worth as it is written."""
    _check_worth(worth)
    return _written(worth)


def _written(worth):
    """What was looked at as it is written."""
    if worth is None:
        return "none"
    if isinstance(worth, str):
        return "'" + worth + "'"
    if is_number(worth):
        return str(worth)
    if is_row(worth):
        return "[" + " ".join([_written(part) for part in worth[1]]) + "]"
    return "#" + str(worth[1])


def read_worth(text):
    """The worth that a text writes."""
    if not isinstance(text, str):
        raise NoText(text)
    found = worth_at(text, 0)
    if found is None or found[1] != len(text):
        raise NoWorth(text)
    return found[0]


def worth_at(text, at):
    """The worth that is written from this place on."""
    return _worth_within_at(text, at, MOST_WITHIN)


def _worth_within_at(text, at, levels):
    """Likewise, with at most so many rows within one another."""
    if text.startswith("none", at):
        return None, at + 4
    if text.startswith("'", at):
        return _quoted_at(text, at)
    if text.startswith("#", at):
        return _thing_at(text, at)
    if text.startswith("[", at):
        return _row_at(text, at, levels)
    return _number_at(text, at, -MOST_NUMBER, MOST_NUMBER)


def _quoted_at(text, at):
    """The text that stands between two `'`, the first of them at this place."""
    end = text.find("'", at + 1)
    if end < 0:
        return None
    held = text[at + 1:end]
    return (held, end + 1) if is_text(held) else None


def _thing_at(text, at):
    """The thing of which the `#` stands at this place."""
    found = _number_at(text, at + 1, 0, MOST_THING)
    return None if found is None else (("thing", found[0]), found[1])


def _row_at(text, at, levels):
    """The row of which the `[` stands at this place."""
    if levels == 0:
        return None
    found = series_at(text, at + 1, "]", lambda whole, place: _worth_within_at(whole, place, levels - 1))
    if found is None or len(found[0]) > MOST_PARTS:
        return None
    return ("row", tuple(found[0])), found[1]


def _number_at(text, at, low, high):
    """The number from low to high that is written from this place on."""
    start = at + 1 if text.startswith("-", at) else at
    end = start
    while end < len(text) and text[end] in FIGURES:
        end += 1
    # Looked at ahead of reckoning: Python refuses to reckon a number of thousands of figures.
    if not 1 <= end - start <= MOST_FIGURES:
        return None
    if text[start] == "0" and end - at > 1:
        return None
    number = int(text[at:end])
    return (number, end) if low <= number <= high else None


def name_at(text, at):
    """The name that is written from this place on."""
    end = at
    while end < len(text) and "a" <= text[end] <= "z":
        end += 1
    name = text[at:end]
    return (name, end) if is_name(name) else None


def series_at(text, at, shut, part_at):
    """A list of the parts up to the sign shut, read by part_at, with one blank between any two."""
    parts = []
    if text.startswith(shut, at):
        return parts, at + 1
    while True:
        found = part_at(text, at)
        if found is None:
            return None
        parts.append(found[0])
        at = found[1]
        if text.startswith(shut, at):
            return parts, at + 1
        if not text.startswith(" ", at):
            return None
        at += 1


def added(one, other):
    """The sum of two numbers."""
    _check_numbers(one, other)
    return _near(one + other)


def taken(one, other):
    """The difference of two numbers."""
    _check_numbers(one, other)
    return _near(one - other)


def lesser(one, other):
    """1 where the one number is less than the other, else 0."""
    _check_numbers(one, other)
    return 1 if one < other else 0


def _check_numbers(one, other):
    """Refuse what are no worths, then come to a fault with the first that is no number."""
    _check_worth(one)
    _check_worth(other)
    _check_number(one)
    _check_number(other)


def _check_number(worth):
    """Come to a fault with a worth that is no number."""
    if not is_number(worth):
        raise Fault("wrong", worth)


def _near(number):
    """The number itself, where it is not beyond a worth's bounds."""
    if not is_worth(number):
        raise Fault("far", number)
    return number


def parts_of(row):
    """The parts of a row, a tuple."""
    _check_worth(row)
    return _held(row)


def _held(worth):
    """The parts of what was looked at, where it is a row."""
    if not is_row(worth):
        raise Fault("wrong", worth)
    return worth[1]


def part_of(row, at):
    """The part of a row of this number, from 0."""
    _check_worth(row)
    _check_worth(at)
    parts = _held(row)
    _check_number(at)
    if not 0 <= at < len(parts):
        raise Fault("lacks", at)
    return parts[at]


def are_rows(thing):
    """Whether a thing is a dict of at most thirty names to worths."""
    if not isinstance(thing, dict) or len(thing) > MOST_ROWS:
        return False
    return all([is_name(name) and is_worth(worth) for name, worth in thing.items()])


def are_names(thing, most):
    """Whether a thing is a list of at most so many names, none of them twice."""
    if not isinstance(thing, (list, tuple)) or len(thing) > most:
        return False
    return all([is_name(name) for name in thing]) and len(set(thing)) == len(thing)


def things_in(worth):
    """The numbers of all things that stand in a worth, each once, as they first stand there."""
    _check_worth(worth)
    numbers = {}
    _gather(worth, numbers)
    return list(numbers)


def _gather(worth, numbers):
    """Note the things that stand in what was looked at among the numbers."""
    if is_row(worth):
        for part in worth[1]:
            _gather(part, numbers)
    elif isinstance(worth, tuple):
        numbers[worth[1]] = True


def moved(worth, numbers):
    """The worth with each thing put otherwise, as the dict from numbers to numbers tells."""
    _check_worth(worth)
    if not _are_numbers(numbers):
        raise NoRows(numbers)
    return put_otherwise(worth, numbers)


def _are_numbers(thing):
    """Whether a thing is a dict from numbers of things to such numbers."""
    if not isinstance(thing, dict):
        return False
    return all([is_whole(number, 0, MOST_THING) for pair in thing.items() for number in pair])


def put_otherwise(worth, numbers):
    """What was looked at, with each thing put otherwise."""
    if is_row(worth):
        return "row", tuple([put_otherwise(part, numbers) for part in worth[1]])
    if isinstance(worth, tuple):
        return "thing", numbers.get(worth[1], worth[1])
    return worth
