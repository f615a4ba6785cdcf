"""Frames: the records of deeds that run.

A frame is a thing only from when it is told. A Store may be laid back while the
deed runs; then a twin of the record stands in it. So which thing a frame is, is
found out by its mark, which it has in common with its twins alone.
"""

from innerlook.store import Record


class Mark:
    """What tells a frame, and its twins, from all other frames."""

    def __init__(self):
        # Whether it may be a thing of some Store: most frames never are, and are not looked for.
        self.was_told = False


class Frame(Record):
    """The record of a frame: its deed, its me, the worths of its names, and the frame of the one that calls."""

    def __init__(self, mark, deed, me, worths, caller):
        self.mark = mark
        self.own_deed = deed
        self.own_me = me
        self.own_worths = worths
        self.own_caller = caller
        self.over = False

    def sort_word(self):
        return "frame"

    def deed(self):
        """The deed that runs, a tree."""
        return self.own_deed

    def me(self):
        """The thing that is `me` in it."""
        return self.own_me

    def worths(self):
        """Its names and worths, a dict by the names' order."""
        return {name: self.own_worths[name] for name in sorted(list(self.own_worths))}

    def put_worth(self, name, worth):
        """Give a name a worth."""
        self.own_worths[name] = worth

    def caller(self, store):
        """The frame of the one that calls, made a thing, or None."""
        return None if self.own_caller is None else frame_told(store, self.own_caller)

    def is_over(self):
        """Whether the deed has ended."""
        return self.over

    def shut(self):
        """Let the deed be ended: nothing is asked of its caller then."""
        self.over = True
        self.own_caller = None

    def told(self):
        return self.own_deed, self.own_me, tuple(self.worths().items()), self.over

    def twin(self):
        caller = None if self.own_caller is None else self.own_caller.twin()
        other = Frame(self.mark, self.own_deed, self.own_me, dict(self.own_worths), caller)
        other.over = self.over
        return other

    def moved(self, numbers):
        """Nothing: frames stay as they are."""


def thing_of_frame(store, frame):
    """The thing that a frame is in a Store, or None."""
    if not frame.mark.was_told:
        return None
    for number, record in enumerate(store.things):
        if isinstance(record, Frame) and record.mark == frame.mark:
            return "thing", number
    return None


def frame_told(store, frame):
    """The thing that a frame is, made where it is none yet."""
    thing = thing_of_frame(store, frame)
    if thing is not None:
        return thing
    made, mark = store.added(frame), frame.mark
    mark.was_told = True
    return made


def frame_there(store, frame):
    """The record that tells how a frame is now: that of the thing where it is one."""
    thing = thing_of_frame(store, frame)
    return frame if thing is None else store.record(thing)
