"""Runs of calls by asks, from one counted statement to the next.

What is still to be done stands in a list, the last of it first: deeds that run,
and, behind what they call, tuples of a word: `call`, which runs a deed or wrap;
`behind`, `answer` and `keep`, by which wraps go on with the answer behind theirs.
"""

from innerlook.asks import asked_within, met_within
from innerlook.codes import code_of
from innerlook.errors import Fault
from innerlook.frames import Frame, Mark, frame_there, frame_told
from innerlook.fronts import bare_worth
from innerlook.params import matched
from innerlook.plain import MOST_DEEDS, MOST_STATEMENTS, by_names, plainly_reckoned
from innerlook.worths import says_yes


class Running:
    """A deed that runs: where in its code, with which worths, and what `onward` calls in it, or None."""

    def __init__(self, frame, onward):
        self.frame = frame
        self.onward = onward
        self.code = code_of(frame.deed())
        self.at = 0
        self.stack = []
        self.own_place = ()
        self.waits = False

    def next_word(self):
        """The word with which its code goes on, none behind its end."""
        return self.code[self.at][0] if self.at < len(self.code) else ""

    def stop_there(self):
        """Tell its place where it stands ahead of a statement that is counted."""
        self.own_place = self.code[self.at][1]

    def next_one(self):
        """Go on by one in the code, and tell it."""
        self.at += 1
        return self.code[self.at - 1]

    def taken_worths(self, many):
        """The last worths that were reckoned, which are taken."""
        first = len(self.stack) - many
        worths = self.stack[first:]
        del self.stack[first:]
        return worths


class Run:
    """A run in a Store, which it changes, also where it comes to a fault."""

    def __init__(self, store):
        self.in_store = store
        self.waiting = []
        self.last_answer = None
        self.many_counted = 0

    def begin(self, thing, name, args, named):
        """Call what the name meets in the thing, up to the first statement."""
        self.waiting.append(("call", met_within(self.in_store, thing, name), thing, args, named))
        self._go_on()

    def step(self):
        """Do the statement ahead of which it stands, up to the next one or to the end."""
        self.many_counted += 1
        self.waiting[-1].next_one()
        self._go_on()

    def is_over(self):
        """Whether nothing is left to be done."""
        return not self.waiting

    def break_off(self):
        """Leave all that is still to be done."""
        self.waiting = []

    def all_running(self):
        """The deeds that run, the outermost first, a list."""
        return [one for one in self.waiting if isinstance(one, Running)]

    def _go_on(self):
        """Do all up to the next statement that is counted, or to the end."""
        while self.waiting:
            last = self.waiting[-1]
            if not isinstance(last, Running):
                self.waiting.pop()
                self._do_task(last)
            elif last.waits:
                last.stack.append(self.last_answer)
                last.waits = False
            elif last.next_word() == "stop":
                if self.many_counted == MOST_STATEMENTS:
                    raise Fault("long", MOST_STATEMENTS)
                last.stop_there()
                return
            else:
                self._go_on_in(last)

    def _do_task(self, task):
        """Do what is no deed that runs already."""
        word = task[0]
        if word == "call":
            self._call(task)
        elif word == "behind":
            _, deed, me = task
            answer = self.last_answer
            self.waiting.extend([("answer", answer), ("call", deed, me, (answer,), {})])
        elif word == "answer":
            self.last_answer = task[1]
        else:
            _, wrap, me, args, named = task
            self.in_store.record(wrap).keep_answer(me, args, named, self.last_answer)

    def _call(self, task):
        """Call a deed or wrap: deeds run from now on, of wraps it is told what is to be done."""
        _, one, me, args, named = task
        record = self.in_store.record(one)
        if record.sort_word() == "deed":
            self._run(one, me, args, named, None)
            return
        way = record.way()
        further = ("call", record.inner(), me, args, named)
        if way[0] == "before":
            self.waiting.extend([further, ("call", way[1], me, args, named)])
        elif way[0] == "behind":
            self.waiting.extend([("behind", way[1], me), further])
        elif way[0] == "around":
            self._run(way[1], me, args, named, record.inner())
        elif way[0] == "often":
            if record.takes_one():
                self.waiting.append(further)
            else:
                self.last_answer = None
        else:
            self._call_kept(one, further)

    def _call_kept(self, wrap, further):
        """Tell the answer that a wrap remembers, or call what is within it."""
        key = self._bare_call(further)
        found = self.in_store.record(wrap).answer_to(key[0], key[1], key[2])
        if found is not None:
            self.last_answer = found[0]
        else:
            self.waiting.extend([("keep", wrap, key[0], key[1], key[2]), further])

    def _bare_call(self, task):
        """The me, args and named of a call, with what is behind in the place of stands without rules."""
        _, _, me, args, named = task
        bare_args = tuple([bare_worth(self.in_store, worth) for worth in args])
        bare_named = {name: bare_worth(self.in_store, worth) for name, worth in named.items()}
        return bare_worth(self.in_store, me), bare_args, bare_named

    def _run(self, one, me, args, named, onward):
        """Let a deed run from now on, within those that run already."""
        running = self.all_running()
        if len(running) == MOST_DEEDS:
            raise Fault("deep", MOST_DEEDS)
        deed = self.in_store.deed_of(one)
        worths = matched(deed[1], args, named)
        caller = running[-1].frame if running else None
        self.waiting.append(Running(Frame(Mark(), deed, me, worths, caller), onward))

    def _end(self, running, answer):
        """Let the deed that runs innermost be ended."""
        frame_there(self.in_store, running.frame).shut()
        self.waiting.pop()
        self.last_answer = answer

    def _go_on_in(self, running):
        """Go on by one in the deed that runs innermost."""
        if running.at == len(running.code):
            self._end(running, None)
            return
        word, what, many = running.next_one()
        worths = running.taken_worths(many)
        if word == "jump" or (word == "unless" and not says_yes(worths[0])):
            running.at = what
        elif word == "give":
            self._end(running, worths[0])
        elif word == "let":
            frame_there(self.in_store, running.frame).put_worth(what[1], worths[0])
        elif word == "set":
            self._ask("set", worths)
        elif word == "call":
            self._call_thing(running, what, worths)
        elif word == "may":
            if running.onward is None:
                raise Fault("wrong", "onward")
        elif word == "onward":
            self._call_onward(running, what, worths)
        elif word not in ("do", "unless"):
            running.stack.append(self._reckoned(running, what, worths))

    def _call_thing(self, running, tree, worths):
        """Call what a name meets in a thing."""
        thing, name, *given = worths
        self._check_thing(thing)
        one = met_within(self.in_store, thing, name)
        self._wait_for(running, one, thing, (given, len(tree[3]), tree[4]))

    def _call_onward(self, running, tree, worths):
        """Call what the deed that runs stands around."""
        self._wait_for(running, running.onward, running.frame.me(), (worths, len(tree[1]), tree[2]))

    def _wait_for(self, running, one, me, told):
        """Let a deed wait for the answer of another one, or of a wrap."""
        given, many, named = told
        self.waiting.append(("call", one, me, tuple(given[:many]), by_names(named, given[many:])))
        running.waits = True

    def _reckoned(self, running, tree, worths):
        """What an expression that calls nothing makes of the worths in it."""
        word = tree[0]
        if word == "lit":
            return tree[1]
        if word == "name":
            return self._worth_by_name(running, tree[1])
        if word == "me":
            return running.frame.me()
        if word == "here":
            return frame_told(self.in_store, running.frame)
        if word == "get":
            return self._ask(word, worths)
        if word == "new":
            return self._ask(word, [worths[0], by_names(tree[2], worths[1:])])
        if word == "look":
            return self._ask(tree[1], worths)
        return plainly_reckoned(word, worths)

    def _worth_by_name(self, running, name):
        """The worth that a name has in a deed that runs."""
        worths = frame_there(self.in_store, running.frame).worths()
        if name not in worths:
            raise Fault("lacks", name)
        return worths[name]

    def _ask(self, word, worths):
        """Ask the first of the worths by a word, with the others."""
        self._check_thing(worths[0])
        return asked_within(self.in_store, worths[0], word, worths[1:])

    def _check_thing(self, worth):
        """Come to a fault with a worth that is no thing."""
        if not self.in_store.has_thing(worth):
            raise Fault("wrong", worth)
