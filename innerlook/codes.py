"""Codes: deeds as rows of small doings, so that a run may stop between any two.

A code is a list of tuples (word, what, many): many is how many worths it takes
from those that were reckoned last. The words are those of expressions, with the
tree; those of statements; and

- `stop`, with a place: ahead of each statement that is counted;
- `jump` and `unless`, with a number: to go on there, `unless` where the worth doesn't say yes;
- `may`: ahead of all that stands in an `onward`.
"""

from innerlook.trees import blocks_in, expressions_in


def code_of(deed):
    """The code of a deed."""
    code = []
    _add_block(code, deed[2], ())
    return code


def _add_block(code, block, ahead):
    """Add the statements of a block that itself stands at the place ahead."""
    for number, statement in enumerate(block):
        _add_statement(code, statement, ahead + (number,))


def _add_statement(code, statement, place):
    """Add a statement."""
    start = len(code)
    code.append(("stop", place, 0))
    expressions = expressions_in(statement)
    for expression in expressions:
        _add_expression(code, expression)
    if blocks_in(statement):
        _add_blocks(code, statement, place, start)
    else:
        code.append((statement[0], statement, len(expressions)))


def _add_blocks(code, statement, place, start):
    """Add what stands behind the condition of an `if` or a `while` that itself begins at start."""
    unless = _room(code)
    _add_block(code, statement[2], place + (0,))
    if statement[0] == "while":
        code.append(("jump", start, 0))
        code[unless] = ("unless", len(code), 1)
    else:
        jump = _room(code)
        code[unless] = ("unless", len(code), 1)
        _add_block(code, statement[3], place + (1,))
        code[jump] = ("jump", len(code), 0)


def _room(code):
    """Leave room for one that can be told only when more is added, and tell where."""
    code.append(())
    return len(code) - 1


def _add_expression(code, tree):
    """Add an expression, of which all that stands in it is reckoned first."""
    if tree[0] == "onward":
        code.append(("may", tree, 0))
    expressions = expressions_in(tree)
    for expression in expressions:
        _add_expression(code, expression)
    code.append((tree[0], tree, len(expressions)))
