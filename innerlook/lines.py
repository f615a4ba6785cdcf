"""Lines of a desk: their forms, and what a line tells.

Readers that end in `_at` read from a place in a text. They tell a tuple of what
stands there and the place behind it, or None where no such thing stands there.
"""

from innerlook.deedtext import read_deed
from innerlook.errors import NoRow
from innerlook.rowtext import named_worth_at, rule_at, thing_at, way_at
from innerlook.worths import name_at, worth_at

# What stands behind the words of each line, part by part. A form of which the
# words begin those of another one stands behind that.
FORMS = {
    "make plain": ("thing", "named"), "make kind": ("name", "thing"), "make stand": ("thing", "rules"),
    "make view": ("thing", "names"), "wrap": ("thing", "name", "way"), "ask new": ("thing", "named"),
    "ask": ("name", "thing", "worths"), "call": ("thing", "name", "worths", "named"),
    "unwrap": ("thing", "name", "thing"), "takeback": ("thing",), "exchange": ("thing", "thing"),
    "start": ("thing", "name", "worths", "named"), "step": (), "off": (), "run": (), "frames": (),
    "set": ("thing", "name", "worth"), "names": ("thing",), "text": ("thing",), "store": (),
}


def told_by(line):
    """The words of a line and its parts, a tuple (words, parts), or None where it is of no form."""
    if line.startswith("deed "):
        return _deed_told_by(line)
    for words in list(FORMS):
        if line == words or line.startswith(words + " "):
            parts = _parts_of(line, len(words), FORMS[words])
            return None if parts is None else (words, parts)
    return None


def _deed_told_by(line):
    """Likewise, of the rows of a deed's text."""
    try:
        return "deed", [read_deed("\n".join(_rows_of(line)))]
    except NoRow:
        return None


def _rows_of(line):
    """The rows that are joined in a line by ` / `, which may stand between two `'`, too, without joining any."""
    rows = [""]
    for at, part in enumerate(line.split("'")):
        is_between = at % 2 == 1
        pieces = [part] if is_between else part.split(" / ")
        ahead = "'" if at > 0 else ""
        rows[-1] = rows[-1] + ahead + pieces[0]
        rows.extend(pieces[1:])
    return rows


def _parts_of(line, at, form):
    """The parts of a line from this place on, a list, or None where they are not as the form tells."""
    parts = []
    for what in form:
        found = _part_at(line, at, what)
        if found is None:
            return None
        parts.append(found[0])
        at = found[1]
    return parts if at == len(line) else None


def _part_at(line, at, what):
    """The part of a line that stands, with a blank ahead, from this place on."""
    if what == "worths":
        return _all_at(line, at, _worth_alone_at)
    if what == "rules":
        return _all_at(line, at, rule_at)
    if what == "names":
        return _all_at(line, at, name_at)
    if what == "named":
        return _named_at(line, at)
    if not line.startswith(" ", at):
        return None
    if what == "thing":
        return thing_at(line, at + 1)
    if what == "name":
        return name_at(line, at + 1)
    return way_at(line, at + 1) if what == "way" else worth_at(line, at + 1)


def _worth_alone_at(line, at):
    """A worth behind which a blank stands, or nothing: names may begin as worths do."""
    found = worth_at(line, at)
    if found is None or not (found[1] == len(line) or line.startswith(" ", found[1])):
        return None
    return found


def _all_at(line, at, part_at):
    """A tuple of all parts, a blank ahead of each, that are read by part_at."""
    parts = []
    while line.startswith(" ", at):
        found = part_at(line, at + 1)
        if found is None:
            return tuple(parts), at
        parts.append(found[0])
        at = found[1]
    return tuple(parts), at


def _named_at(line, at):
    """A dict of worths by names, none of which stands there twice."""
    pairs, end = _all_at(line, at, lambda text, place: named_worth_at(text, place, "="))
    named = {name: worth for name, worth in pairs}
    return (named, end) if len(named) == len(pairs) else None
