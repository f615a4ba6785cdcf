"""A desk: a Store, and perhaps a Machine, that are worked with by lines."""

from innerlook.asks import ask
from innerlook.errors import Ended, NoLine
from innerlook.fronts import stand
from innerlook.lines import told_by
from innerlook.machine import Machine, called
from innerlook.making import exchanged
from innerlook.store import Store
from innerlook.storetext import store_text
from innerlook.views import take_back, view
from innerlook.worths import worth_text
from innerlook.wraps import put_on, take_off

# What may be said while a Machine runs, and what may be said then alone.
WHILE_RUNNING = ("step", "run", "off", "frames", "set", "names", "text")
WITH_MACHINE = ("step", "run", "off", "set")


class Desk:
    """A Store, at first a new one, and the Machine that was started last, or None."""

    def __init__(self):
        self.kept_store = Store()
        self.machine = None

    def say(self, line):
        """Do what a line says, and tell the answer, a list of texts."""
        told = told_by(line) if isinstance(line, str) else None
        if told is None:
            raise NoLine(line)
        words, parts = told
        if self.is_running() and words not in WHILE_RUNNING:
            raise Ended("running")
        if not self.is_running() and words in WITH_MACHINE:
            raise Ended("done")
        action = DONE[words]
        return action(self, *parts)

    def store(self):
        """A twin of the Store."""
        return self.kept_store.twin()

    def is_running(self):
        """Whether a Machine runs."""
        return self.machine is not None and not self.machine.is_done()


def _make_plain(desk, kind, rows):
    return [worth_text(desk.kept_store.plain(kind, rows=rows))]


def _make_kind(desk, title, above):
    return [worth_text(desk.kept_store.kind(title, above=above))]


def _make_stand(desk, thing, rules):
    return [worth_text(stand(desk.kept_store, thing, rules))]


def _make_view(desk, thing, names):
    return [worth_text(view(desk.kept_store, thing, names=names))]


def _make_deed(desk, deed):
    return [worth_text(desk.kept_store.deed(deed))]


def _wrap(desk, thing, name, way):
    return [worth_text(put_on(desk.kept_store, thing, name, way))]


def _unwrap(desk, thing, name, wrap):
    take_off(desk.kept_store, thing, name, wrap)
    return []


def _ask(desk, word, thing, worths):
    worth = ask(desk.kept_store, thing, word, worths)
    return worth.split("\n") if word == "text" else [worth_text(worth)]


def _ask_new(desk, kind, rows):
    return [worth_text(ask(desk.kept_store, kind, "new", [rows]))]


def _call(desk, thing, name, args, named):
    return [worth_text(called(desk.kept_store, thing, name, args=args, named=named))]


def _take_back(desk, thing):
    return ["yes" if take_back(desk.kept_store, thing) else "no"]


def _exchange(desk, one, other):
    return [str(exchanged(desk.kept_store, one, other))]


def _start(desk, thing, name, args, named):
    desk.machine = Machine(desk.kept_store, thing, name, args=args, named=named)
    return []


def _step(desk):
    desk.machine.step()
    return []


def _off(desk):
    desk.machine.call_off()
    return []


def _run(desk):
    return [worth_text(desk.machine.run())]


def _frames(desk):
    if not desk.is_running():
        return []
    return [_frame_text(desk.machine, frame) for frame in desk.machine.frames()]


def _frame_text(machine, frame):
    """A frame as a text."""
    place = ".".join([str(at) for at in machine.place(frame)])
    worths = [name + "=" + worth_text(worth) for name, worth in machine.names(frame).items()]
    return " ".join([worth_text(frame), machine.title_of(frame), place, *worths])


def _set(desk, frame, name, worth):
    desk.machine.set_worth(frame, name, worth)
    return []


def _names(desk, thing):
    return list(ask(desk.kept_store, thing, "names")[1])


def _text(desk, thing):
    return ask(desk.kept_store, thing, "text").split("\n")


def _store(desk):
    text = store_text(desk.kept_store)
    return text.split("\n") if text else []


# What is done for the words of each line.
DONE = {
    "make plain": _make_plain, "make kind": _make_kind, "make stand": _make_stand, "make view": _make_view,
    "deed": _make_deed, "wrap": _wrap, "unwrap": _unwrap, "ask": _ask, "ask new": _ask_new, "call": _call,
    "takeback": _take_back, "exchange": _exchange, "start": _start, "step": _step, "off": _off, "run": _run,
    "frames": _frames, "set": _set, "names": _names, "text": _text, "store": _store,
}
