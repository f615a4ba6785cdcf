"""The Machine: one call in a Store, statement by statement, with all that looks within."""

from innerlook.errors import Ended, Fault, NotThere, NoWorth
from innerlook.frames import frame_there, frame_told, thing_of_frame
from innerlook.running import Run
from innerlook.store import MOST_THINGS, check_store
from innerlook.worths import check_name


class Machine:
    """A call that is done step by step, and stops ahead of each statement that is counted."""

    def __init__(self, store, thing, name, *, args=(), named=None):
        check_store(store)
        store.record(thing)
        check_name(name)
        places, names = store.args_given(args), store.rows_given(named)
        self.in_store = store
        self.before = store.twin()
        self.run_there = Run(store)
        try:
            self.run_there.begin(thing, name, places, names)
        except Fault:
            self._put_all_back()
            raise
        self.did_end = self.run_there.is_over()

    def step(self):
        """Do one statement, up to the next stop or to the end."""
        self._check_runs()
        try:
            self.run_there.step()
        except Fault:
            self._put_all_back()
            raise
        self.did_end = self.run_there.is_over()

    def run(self):
        """Do all steps until the end, and tell the worth."""
        self._check_runs()
        while not self.is_done():
            self.step()
        return self.worth()

    def call_off(self):
        """Let all be as it was ahead of the call."""
        self._check_runs()
        self._put_all_back()

    def is_done(self):
        """Whether it is done, with a worth or without one."""
        return self.run_there.is_over()

    def worth(self):
        """The worth to which the call came."""
        if not self.is_done():
            raise Ended("running")
        if not self.did_end:
            raise Ended("done")
        return self.run_there.last_answer

    def counted(self):
        """How many statements were counted."""
        return self.run_there.many_counted

    def frames(self):
        """The frames that run, the outermost first, a list of things."""
        frames = [running.frame for running in self.run_there.all_running()]
        new = [frame for frame in frames if thing_of_frame(self.in_store, frame) is None]
        if len(self.in_store) + len(new) > MOST_THINGS:
            raise Fault("full", MOST_THINGS)
        return [frame_told(self.in_store, frame) for frame in frames]

    def title_of(self, frame):
        """The title of the deed that runs in a frame."""
        return self._record_of(frame).deed()[0]

    def place(self, frame):
        """The place of the statement at which a frame is, a tuple."""
        return self._running_in(frame).own_place

    def names(self, frame):
        """The names of a frame and their worths, a dict."""
        return self._record_of(frame).worths()

    def me(self, frame):
        """The thing that is `me` in a frame."""
        return self._record_of(frame).me()

    def set_worth(self, frame, name, worth):
        """Give a name of a frame another worth."""
        record = self._record_of(frame)
        check_name(name)
        if not self.in_store.holds(worth):
            raise NoWorth(worth)
        if name not in record.worths():
            raise Fault("lacks", name)
        record.put_worth(name, worth)

    def frames_told(self):
        """The frames that run, (title, place, names), a list, no thing being made for them."""
        return [self._told(running) for running in self.run_there.all_running()]

    def _told(self, running):
        """What is told of a deed that runs."""
        record = frame_there(self.in_store, running.frame)
        return record.deed()[0], running.own_place, record.worths()

    def _running_in(self, frame):
        """The deed that runs in a frame."""
        if self.in_store.has_thing(frame):
            for running in self.run_there.all_running():
                if thing_of_frame(self.in_store, running.frame) == frame:
                    return running
        raise NotThere(frame)

    def _record_of(self, frame):
        """The record of a frame that runs."""
        return frame_there(self.in_store, self._running_in(frame).frame)

    def _check_runs(self):
        """Refuse what can't be done any more."""
        if self.is_done():
            raise Ended("done")

    def _put_all_back(self):
        """Have the Store as it was ahead of the call, and be done without a worth."""
        self.in_store.lay(self.before)
        self.run_there.break_off()


def called(store, thing, name, *, args=(), named=None):
    """The worth of a Machine's run."""
    machine = Machine(store, thing, name, args=args, named=named)
    return machine.worth() if machine.is_done() else machine.run()
