"""Rows of texts that tell what things have: names, worths by names, rules and ways.

Readers that end in `_at` read from a place in a text. They tell a tuple of what
stands there and the place behind it, or None where no such thing stands there.
"""

from innerlook.fronts import RULES
from innerlook.worths import are_names, name_at, worth_at, worth_text
from innerlook.wraps import WITH_DEED, is_way


def names_behind(row, word, most):
    """The names behind this word, unlike ones, one at least, a tuple, or None where the row is not so."""
    words = row.split(" ")
    names = words[1:]
    return tuple(names) if words[0] == word and names and are_names(names, most) else None


def worth_row(row):
    """The name and the worth of a row `row NAME WORTH`, a tuple, or None where the row is not so."""
    return whole(row, named_worth_at(row, 4, " ")) if row.startswith("row ") else None


def whole(text, found):
    """What was found in a text, or None where something stands behind it."""
    return found[0] if found is not None and found[1] == len(text) else None


def named_worth_at(text, at, sign):
    """A name and a worth, a tuple, with this sign between them."""
    name = name_at(text, at)
    if name is None or not text.startswith(sign, name[1]):
        return None
    worth = worth_at(text, name[1] + len(sign))
    return None if worth is None else ((name[0], worth[0]), worth[1])


def thing_at(text, at):
    """A thing."""
    return worth_at(text, at) if text.startswith("#", at) else None


def worth_row_text(name, worth):
    """A name and a worth as such a row."""
    return "row " + name + " " + worth_text(worth)


def listed_rows(wants, shares):
    """The rows of what a kind wants and shares, none where it does not, a list."""
    rows = []
    if wants:
        rows.append(" ".join(["wants", *wants]))
    if shares:
        rows.append(" ".join(["shares", *shares]))
    return rows


def rule_text(rule):
    """A rule as it is written."""
    word, name, *further = rule
    if word == "give":
        return word + ":" + name + ":" + worth_text(further[0])
    return ":".join([word, name, *further])


def rule_at(text, at):
    """A rule, whatever others stand beside it."""
    for word in list(RULES):
        if text.startswith(word + ":", at):
            return _rule_of_word_at(text, at + len(word) + 1, word)
    return None


def _rule_of_word_at(text, at, word):
    """What stands in a rule of this word."""
    if word == "give":
        given = named_worth_at(text, at, ":")
        return None if given is None else ((word, given[0][0], given[0][1]), given[1])
    name = name_at(text, at)
    if name is None or word != "as":
        return None if name is None else ((word, name[0]), name[1])
    other = name_at(text, name[1] + 1) if text.startswith(":", name[1]) else None
    return None if other is None else ((word, name[0], other[0]), other[1])


def way_text(way):
    """A way as it is written."""
    return way[0] if len(way) == 1 else way[0] + ":" + worth_text(way[1])


def way_at(text, at):
    """A way."""
    if text.startswith("kept", at):
        return ("kept",), at + 4
    for word in ("often",) + WITH_DEED:
        if text.startswith(word + ":", at):
            found = worth_at(text, at + len(word) + 1)
            if found is not None and is_way((word, found[0])):
                return (word, found[0]), found[1]
    return None
