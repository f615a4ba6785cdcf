"""Deeds as texts: how expressions and deeds are written, and the deed that a text writes.

Readers that end in `_at` read from a place in a text. They tell a tuple of what
stands there and the place behind it, or None where no such thing stands there.
"""

from innerlook.errors import NoRow, NoText, NoTree
from innerlook.params import params_at, params_text
from innerlook.trees import FORMS, MOST_PARTS, MOST_STATEMENTS, MOST_WITHIN, NONE_LEFT, STATEMENTS
from innerlook.trees import blocks_in, check_deed, is_expression, left_behind_statement
from innerlook.worths import is_name, name_at, worth_at, worth_text

# A statement, and an expression in it: no block that must have a statement has room with less.
FEWEST_PARTS = 2
FEWEST_WITHIN = 2


def expression_text(thing):
    """An expression as it is written."""
    if not is_expression(thing):
        raise NoTree(thing)
    return _written(thing)


def _written(tree):
    """What was looked at as it is written."""
    word = tree[0]
    if word == "lit":
        return worth_text(tree[1])
    if word == "name":
        return tree[1]
    if word in ("me", "here"):
        return word
    return "(" + " ".join(_words_of(tree)) + ")"


def _words_of(tree):
    """The word of a tree and all that stands in it but blocks, written, a list."""
    words = [tree[0]]
    for what, part in zip(FORMS[tree[0]], tree[1:]):
        if what == "tree":
            words.append(_written(part))
        elif what == "args":
            words.extend([_written(arg) for arg in part])
        elif what == "named":
            words.extend([name + "=" + _written(arg) for name, arg in part])
        elif what != "block":
            words.append(part)
    return words


def deed_text(deed):
    """A deed as it is written."""
    check_deed(deed)
    head = "deed " + deed[0] + " " + params_text(deed[1])
    return "\n".join([head] + _block_rows(deed[2]))


def _block_rows(block):
    """The rows of a block, a list."""
    return [row for statement in block for row in _statement_rows(statement)]


def _statement_rows(statement):
    """The rows of a statement, a list."""
    rows = [" ".join(_words_of(statement))]
    blocks = blocks_in(statement)
    if not blocks:
        return rows
    rows.extend(_block_rows(blocks[0]))
    if len(blocks) > 1 and blocks[1]:
        rows.append("else")
        rows.extend(_block_rows(blocks[1]))
    return rows + ["end"]


class OpenDeed:
    """A deed that is being read, row by row, and what in it is still to be shut.

    What is open is a list of [word, head, first block, second block]: the deed
    itself, then each `if` and `while` within which the next row stands, of which
    the head is the condition. There is no second block ahead of `else`.
    """

    def __init__(self):
        self.shells = []
        self.left = MOST_PARTS

    def takes_row(self, row):
        """Whether the deed goes on with this row, which is taken then."""
        if not self.shells:
            return self._takes_head(row)
        if row == "else":
            return self._takes_else()
        if row == "end":
            return self._takes_end()
        return self._takes_statement(row)

    def _takes_head(self, row):
        """Likewise, of the first row."""
        found = _head_at(row)
        if found is not None:
            self.shells.append(["deed", found, []])
        return found is not None

    def _takes_else(self):
        """Likewise, of `else`: a statement must have room behind it."""
        inmost = self.shells[-1]
        if inmost[0] != "if" or len(inmost) > 3:
            return False
        if self._levels() < FEWEST_WITHIN or self.left < FEWEST_PARTS:
            return False
        inmost.append([])
        return True

    def _takes_end(self):
        """Likewise, of `end`: an `else` has statements."""
        word, head, *blocks = self.shells[-1]
        if word == "deed" or (len(blocks) > 1 and not blocks[1]):
            return False
        self.shells.pop()
        self._add(_shut(word, head, blocks))
        return True

    def _takes_statement(self, row):
        """Likewise, of the row of a statement, or of one that opens blocks."""
        levels = self._levels()
        statement = _statement_of(row, levels)
        if statement is None or len(self.shells[-1][-1]) == MOST_STATEMENTS:
            return False
        left = left_behind_statement(statement, levels, self.left)
        if left == NONE_LEFT:
            return False
        self.left = left
        if blocks_in(statement):
            self.shells.append([statement[0], statement[1], []])
        else:
            self._add(statement)
        return True

    def _levels(self):
        """How many levels the next statement may have."""
        return MOST_WITHIN + 1 - len(self.shells)

    def _add(self, statement):
        """Put a whole statement into the inmost block."""
        self.shells[-1][-1].append(statement)

    def is_whole(self):
        """Whether the deed may end here."""
        return len(self.shells) == 1

    def deed(self):
        """The deed that was read."""
        title, params = self.shells[0][1]
        return title, params, tuple(self.shells[0][2])


def _shut(word, condition, blocks):
    """An `if` or a `while` of a condition and of lists of statements."""
    first = tuple(blocks[0])
    if word == "while":
        return word, condition, first
    second = tuple(blocks[1]) if len(blocks) > 1 else ()
    return word, condition, first, second


def read_deed(text):
    """The deed that a text writes."""
    reading = OpenDeed()
    read_rows(text, reading)
    return reading.deed()


def read_rows(text, reading):
    """Let what is being read take all rows of a text, without blanks around them and without empty ones."""
    if not isinstance(text, str):
        raise NoText(text)
    rows = text.split("\n")
    for at, row in enumerate(rows):
        bare = row.strip(" ")
        if bare and not reading.takes_row(bare):
            raise NoRow(at)
    if not reading.is_whole():
        raise NoRow(len(rows))


def _head_at(row):
    """The title and the parameters that a row writes, or None."""
    title = name_at(row, 5) if row.startswith("deed ") else None
    if title is None or not row.startswith(" ", title[1]):
        return None
    params = params_at(row, title[1] + 1)
    if params is None or params[1] != len(row):
        return None
    return title[0], params[0]


def _statement_of(row, levels):
    """The statement that a row writes, its blocks empty, or None where it is none or has too many levels."""
    word = row.partition(" ")[0]
    if word not in STATEMENTS:
        return None
    found = _parts_at(row, len(word), word, levels)
    if found is None or found[1] != len(row):
        return None
    return found[0]


def _parts_at(text, at, word, levels):
    """The tree of this word of which the parts, a blank ahead of each, stand from this place on."""
    parts = [word]
    for what in FORMS[word]:
        found = _part_at(text, at, what, levels - 1)
        if found is None:
            return None
        parts.append(found[0])
        at = found[1]
    return tuple(parts), at


def _part_at(text, at, what, levels):
    """The part of a tree that is written from this place on."""
    if what == "args":
        return _args_at(text, at, levels)
    if what == "named":
        return _named_at(text, at, levels)
    if what == "block":
        return (), at
    if not text.startswith(" ", at):
        return None
    if what == "tree":
        return _expression_at(text, at + 1, levels)
    # What is left are the name of a `let` and the word of a look. Whether they are, is looked at with the statement.
    end = _end_of_word(text, at + 1)
    return text[at + 1:end], end


def _args_at(text, at, levels):
    """The expressions from this place on, up to the first that stands by a name."""
    args = []
    while text.startswith(" ", at) and _name_ahead(text, at + 1) is None:
        found = _expression_at(text, at + 1, levels)
        if found is None:
            return None
        args.append(found[0])
        at = found[1]
    return tuple(args), at


def _named_at(text, at, levels):
    """The expressions by names from this place on."""
    named = []
    while text.startswith(" ", at):
        name = _name_ahead(text, at + 1)
        found = None if name is None else _expression_at(text, name[1], levels)
        if found is None:
            return None
        named.append((name[0], found[0]))
        at = found[1]
    return tuple(named), at


def _name_ahead(text, at):
    """The name at this place, and the place behind the `=` behind it, or None."""
    found = name_at(text, at)
    if found is None or not text.startswith("=", found[1]):
        return None
    return found[0], found[1] + 1


def _end_of_word(text, at):
    """The place behind the small letters from this place on."""
    while at < len(text) and "a" <= text[at] <= "z":
        at += 1
    return at


def _expression_at(text, at, levels):
    """The expression of at most so many levels that is written from this place on."""
    if levels == 0:
        return None
    if text.startswith("(", at):
        return _whole_tree_at(text, at, levels)
    end = _end_of_word(text, at)
    word = text[at:end]
    if word in ("me", "here"):
        return (word,), end
    if is_name(word):
        return ("name", word), end
    found = worth_at(text, at)
    return None if found is None else (("lit", found[0]), found[1])


def _whole_tree_at(text, at, levels):
    """The expression of which the `(` stands at this place."""
    end = _end_of_word(text, at + 1)
    word = text[at + 1:end]
    if word not in FORMS or word in STATEMENTS or word in ("lit", "name", "me", "here"):
        return None
    found = _parts_at(text, end, word, levels)
    if found is None or not text.startswith(")", found[1]):
        return None
    return found[0], found[1] + 1
