"""Trees: expressions, statements, blocks and deeds, and the places of a deed's statements."""

from innerlook.errors import NoDeed, NotThere
from innerlook.params import is_params
from innerlook.worths import is_name, is_plain_worth, is_whole

MOST_ARGS = 6
MOST_NAMED = 6
MOST_STATEMENTS = 12
MOST_PARTS = 400
MOST_WITHIN = 12

# The words of a look, with how many args each has, the thing too.
LOOKS = {
    "has": 2, "drop": 2, "names": 1, "kind": 1, "turn": 2, "owner": 2, "under": 2, "title": 1, "above": 1,
    "params": 1, "copy": 1, "deep": 1, "sort": 1, "within": 1, "alike": 2, "made": 2, "stand": 1, "narrow": 2,
}

# What stands behind the word of each tree, part by part.
FORMS = {
    "lit": ("worth",), "name": ("name",), "me": (), "here": (),
    "add": ("tree", "tree"), "sub": ("tree", "tree"), "less": ("tree", "tree"), "same": ("tree", "tree"),
    "row": ("args",), "part": ("tree", "tree"), "size": ("tree",),
    "get": ("tree", "tree"), "call": ("tree", "tree", "args", "named"), "new": ("tree", "named"),
    "onward": ("args", "named"), "look": ("look", "args"),
    "let": ("name", "tree"), "set": ("tree", "tree", "tree"), "do": ("tree",), "give": ("tree",),
    "if": ("tree", "block", "block"), "while": ("tree", "block"),
}
# All other words of the forms are those of expressions.
STATEMENTS = ("let", "set", "do", "give", "if", "while")

# What is told in the place of how many parts are left, where something is no such tree.
NONE_LEFT = -1


def is_expression(thing):
    """Whether a thing is an expression."""
    return _left_behind_tree(thing, False, MOST_WITHIN, MOST_PARTS) != NONE_LEFT


def is_block(thing):
    """Whether a thing is a block."""
    return _left_behind_block(thing, MOST_WITHIN, MOST_PARTS) != NONE_LEFT


def is_deed(thing):
    """Whether a thing is a deed."""
    if not isinstance(thing, tuple) or len(thing) != 3:
        return False
    return is_name(thing[0]) and is_params(thing[1]) and is_block(thing[2])


def check_deed(thing):
    """Refuse what is no deed."""
    if not is_deed(thing):
        raise NoDeed(thing)


def left_behind_statement(thing, levels, left):
    """How many of the parts that are left remain behind a statement of at most so many levels.

    It is NONE_LEFT where the thing is no such statement, or has more parts than are left.
    """
    return _left_behind_tree(thing, True, levels, left)


# All of these count down while they look: a thing of which the parts are again
# and again the same may be far too big to be looked at whole.
def _left_behind_tree(thing, is_statement, levels, left):
    """Likewise, of a statement or of an expression."""
    if levels == 0 or left == 0 or not _has_form(thing, is_statement):
        return NONE_LEFT
    left = left - 1
    for what, part in zip(FORMS[thing[0]], thing[1:]):
        left = _left_behind_part(what, part, levels - 1, left)
        if left == NONE_LEFT:
            return NONE_LEFT
    if thing[0] == "look" and len(thing[2]) != LOOKS[thing[1]]:
        return NONE_LEFT
    return left


def _has_form(thing, is_statement):
    """Whether a thing begins with a word of statements, or of expressions, and has its parts behind it."""
    if not isinstance(thing, tuple) or not thing:
        return False
    word = thing[0]
    if not isinstance(word, str) or word not in FORMS or (word in STATEMENTS) != is_statement:
        return False
    return len(thing) == 1 + len(FORMS[word])


def _left_behind_part(what, part, levels, left):
    """Likewise, of a part of a tree."""
    if what == "tree":
        return _left_behind_tree(part, False, levels, left)
    if what == "args":
        return _left_behind_args(part, levels, left)
    if what == "named":
        return _left_behind_named(part, levels, left)
    if what == "block":
        return _left_behind_block(part, levels, left)
    return left if _is_leaf(what, part) else NONE_LEFT


def _is_leaf(what, part):
    """Whether a part in which no tree stands is what it is to be."""
    if what == "worth":
        return is_plain_worth(part)
    if what == "name":
        return is_name(part)
    return isinstance(part, str) and part in LOOKS


def _left_behind_args(part, levels, left):
    """Likewise, of a tuple of expressions."""
    if not isinstance(part, tuple) or len(part) > MOST_ARGS:
        return NONE_LEFT
    return _left_behind_all(part, False, levels, left)


def _left_behind_named(part, levels, left):
    """Likewise, of a tuple of expressions by names."""
    if not isinstance(part, tuple) or len(part) > MOST_NAMED:
        return NONE_LEFT
    if not all([isinstance(pair, tuple) and len(pair) == 2 and is_name(pair[0]) for pair in part]):
        return NONE_LEFT
    if len(set([pair[0] for pair in part])) != len(part):
        return NONE_LEFT
    return _left_behind_all([pair[1] for pair in part], False, levels, left)


def _left_behind_block(part, levels, left):
    """Likewise, of a block."""
    if not isinstance(part, tuple) or len(part) > MOST_STATEMENTS:
        return NONE_LEFT
    return _left_behind_all(part, True, levels, left)


def _left_behind_all(trees, are_statements, levels, left):
    """Likewise, of several trees."""
    for tree in trees:
        left = _left_behind_tree(tree, are_statements, levels, left)
        if left == NONE_LEFT:
            return NONE_LEFT
    return left


def expressions_in(tree):
    """The expressions that stand straight in a tree, from left to right, a list."""
    found = []
    for what, part in zip(FORMS[tree[0]], tree[1:]):
        if what == "tree":
            found.append(part)
        elif what == "args":
            found.extend(part)
        elif what == "named":
            found.extend([pair[1] for pair in part])
    return found


def blocks_in(statement):
    """The blocks that stand straight in a statement, a tuple."""
    return statement[2:] if statement[0] in ("if", "while") else ()


def places_in(deed):
    """The places of all statements of a deed, in the order of its rows."""
    check_deed(deed)
    return _places(deed[2], ())


def _places(block, ahead):
    """The places of all statements of a block that itself stands at the place ahead."""
    places = []
    for number, statement in enumerate(block):
        place = ahead + (number,)
        places.append(place)
        for which, inner in enumerate(blocks_in(statement)):
            places.extend(_places(inner, place + (which,)))
    return places


def statement_at(deed, place):
    """The statement of a deed at this place."""
    check_deed(deed)
    if not isinstance(place, tuple) or not all([is_whole(at, 0, MOST_STATEMENTS) for at in place]):
        raise NotThere(place)
    block, ahead = deed[2], place
    while len(ahead) > 0 and ahead[0] < len(block):
        statement = block[ahead[0]]
        if len(ahead) == 1:
            return statement
        blocks = blocks_in(statement)
        if ahead[1] >= len(blocks):
            raise NotThere(place)
        block, ahead = blocks[ahead[1]], ahead[2:]
    raise NotThere(place)
