"""The plain runner: it runs deeds of plain things, kinds and deeds, and has nothing of all that looks within."""

from innerlook.errors import Fault
from innerlook.params import matched
from innerlook.store import check_store
from innerlook.trees import check_deed, expressions_in
from innerlook.worths import added, check_name, is_name, is_worth, lesser, part_of, parts_of, says_yes, taken

MOST_STATEMENTS = 2_000
MOST_DEEDS = 12
# The sorts of things that it knows.
SORTS = ("plain", "kind", "deed")
# The expressions of which no part is reckoned: of the last three it has nothing.
LEAVES = ("lit", "name", "me", "here", "onward", "look")


class RunningDeed:
    """A deed that runs: its title, the thing that is `me` in it, and the worths of its names."""

    def __init__(self, title, me, worths):
        self.own_title = title
        self.own_me = me
        self.own_worths = worths


class PlainRun:
    """A run in a Store, which it changes, also where it comes to a fault."""

    def __init__(self, store):
        self.in_store = store
        self.running = []
        self.many_counted = 0
        self.statements_told = []

    def run_named(self, thing, name, args, named):
        """Run what the name meets in the thing."""
        self._check_thing(thing)
        return self._called(thing, name, args, named)

    def run_tree(self, thing, deed, args, named):
        """Run a deed for a thing."""
        self._check_thing(thing)
        return self._run(thing, deed, args, named)

    def _called(self, thing, name, args, named):
        """Run what the name meets in a thing that was looked at."""
        worth = self._got(thing, name)
        if not self.in_store.has_thing(worth) or self.in_store.sort_of(worth) != "deed":
            raise Fault("wrong", worth)
        return self._run(thing, self.in_store.deed_of(worth), args, named)

    def _run(self, thing, deed, args, named):
        """Run a deed within those that run already."""
        if len(self.running) == MOST_DEEDS:
            raise Fault("deep", MOST_DEEDS)
        title, params, block = deed
        self.running.append(RunningDeed(title, thing, matched(params, args, named)))
        given = self._do_block(block, ())
        self.running.pop()
        return given[0] if given else None

    # Blocks and statements tell a tuple: of the worth that was given, or of
    # nothing where the deed goes on behind them.
    def _do_block(self, block, ahead):
        """Do the statements of a block that itself stands at the place ahead."""
        for number, statement in enumerate(block):
            given = self._do_statement(statement, ahead + (number,))
            if given:
                return given
        return ()

    def _do_statement(self, statement, place):
        """Do a statement, a `while` as often as its condition says yes."""
        worths = self._counted_worths(statement, place)
        if statement[0] == "if":
            which = 0 if says_yes(worths[0]) else 1
            return self._do_block(statement[2 + which], place + (which,))
        if statement[0] != "while":
            return self._done(statement, worths)
        while says_yes(worths[0]):
            given = self._do_block(statement[2], place + (0,))
            if given:
                return given
            worths = self._counted_worths(statement, place)
        return ()

    def _counted_worths(self, statement, place):
        """Count a statement, and reckon the expressions in it."""
        if self.many_counted == MOST_STATEMENTS:
            raise Fault("long", MOST_STATEMENTS)
        self.many_counted += 1
        deed = self.running[-1]
        names = sorted(list(deed.own_worths))
        worths = [(name, deed.own_worths[name]) for name in names]
        self.statements_told.append((len(self.running), deed.own_title, place, worths))
        return self._worths_in(statement)

    def _done(self, statement, worths):
        """Do a statement without blocks, of which the expressions are reckoned."""
        word = statement[0]
        if word == "give":
            return (worths[0],)
        if word == "let":
            self.running[-1].own_worths[statement[1]] = worths[0]
        elif word == "set":
            self._check_thing(worths[0])
            _check_name_worth(worths[1])
            self.in_store.put(worths[0], worths[1], worths[2])
        return ()

    def _worths_in(self, tree):
        """The worths of the expressions that stand straight in a tree, from left to right, a list."""
        worths = []
        for part in expressions_in(tree):
            if part[0] in LEAVES:
                worths.append(self._worth_of_leaf(part))
            else:
                worths.append(self._reckoned(part, self._worths_in(part)))
        return worths

    def _worth_of_leaf(self, tree):
        """The worth of an expression of which nothing else is reckoned first."""
        word = tree[0]
        if word == "lit":
            return tree[1]
        if word == "me":
            return self.running[-1].own_me
        if word == "name":
            return self._worth_by_name(tree[1])
        raise Fault("wrong", word)

    def _worth_by_name(self, name):
        """The worth that a name has in the deed that runs."""
        worths = self.running[-1].own_worths
        if name not in worths:
            raise Fault("lacks", name)
        return worths[name]

    def _reckoned(self, tree, worths):
        """What an expression makes of the worths in it."""
        word = tree[0]
        if word == "call":
            return self._call(tree, worths)
        if word == "new":
            return self._made(worths[0], by_names(tree[2], worths[1:]))
        if word == "get":
            self._check_thing(worths[0])
            return self._got(worths[0], worths[1])
        return plainly_reckoned(word, worths)

    def _call(self, tree, worths):
        """The answer of the deed that a call runs."""
        self._check_thing(worths[0])
        first_named = 2 + len(tree[3])
        named = by_names(tree[4], worths[first_named:])
        return self._called(worths[0], worths[1], worths[2:first_named], named)

    def _got(self, thing, name):
        """What a name meets in a thing that was looked at."""
        _check_name_worth(name)
        found = self.in_store.met(thing, name)
        if found is None:
            raise Fault("lacks", name)
        return found[1]

    def _made(self, kind, rows):
        """A new plain thing."""
        if not self.in_store.may_have_things(kind):
            raise Fault("wrong", kind)
        return self.in_store.plain(kind, rows=rows)

    def _check_thing(self, worth):
        """Come to a fault with a worth that is no thing of the sorts that it knows."""
        if not self.in_store.has_thing(worth) or self.in_store.sort_of(worth) not in SORTS:
            raise Fault("wrong", worth)


def _check_name_worth(worth):
    """Come to a fault with a worth that is no name."""
    if not is_name(worth):
        raise Fault("wrong", worth)


def by_names(named, worths):
    """The worths of the last expressions of a tree, a dict by their names."""
    return {pair[0]: worth for pair, worth in zip(named, worths)}


def plainly_reckoned(word, worths):
    """What an expression that asks nothing of a Store makes of the worths in it."""
    if word == "row":
        return _row_of(worths)
    if word == "size":
        return len(parts_of(worths[0]))
    one, other = worths
    if word == "add":
        return added(one, other)
    if word == "sub":
        return taken(one, other)
    if word == "less":
        return lesser(one, other)
    if word == "part":
        return part_of(one, other)
    return 1 if one == other else 0


def _row_of(worths):
    """A row of the worths."""
    row = ("row", tuple(worths))
    if not is_worth(row):
        raise Fault("many", len(worths))
    return row


def run_plain(store, thing, name, *, args=(), named=None):
    """The worth that the deed which the name meets in the thing gives."""
    check_store(store)
    store.record(thing)
    check_name(name)
    places, names = store.args_given(args), store.rows_given(named)
    return _run_whole(store, lambda run: run.run_named(thing, name, places, names))


def rows_plain(store, thing, name, *, args=(), named=None):
    """All statements that such a run counts, each as (deep, title, place, names and worths)."""
    check_store(store)
    store.record(thing)
    check_name(name)
    places, names = store.args_given(args), store.rows_given(named)
    run = PlainRun(store.twin())
    try:
        run.run_named(thing, name, places, names)
    except Fault:
        # What was counted ahead of the fault is told like any other statement.
        pass
    return run.statements_told


def run_deed(store, thing, deed, *, args=(), named=None):
    """The worth that a deed which stands nowhere gives for a thing."""
    check_store(store)
    store.record(thing)
    check_deed(deed)
    places, names = store.args_given(args), store.rows_given(named)
    return _run_whole(store, lambda run: run.run_tree(thing, deed, places, names))


def _run_whole(store, done):
    """What is done with a run in a Store, which is as it was ahead where that comes to a fault."""
    before = store.twin()
    try:
        return done(PlainRun(store))
    except Fault:
        store.lay(before)
        raise
