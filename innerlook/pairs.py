"""Pairs of runs: with one thing, and with another one in its place, held against each other stop by stop."""

from innerlook.errors import Fault
from innerlook.machine import Machine
from innerlook.store import check_store
from innerlook.worths import check_name, is_row, put_otherwise


class Side:
    """One of two runs: its Machine, or None where it was not made, and its end, a tuple that is empty until then."""

    def __init__(self, store, thing, name, args, named):
        self.machine = None
        self.end = ()
        try:
            self.machine = Machine(store, thing, name, args=args, named=named)
            self._note_end()
        except Fault as fault:
            self.end = ("fault", fault.why, fault.found)

    def step(self):
        """Do a statement."""
        try:
            self.machine.step()
            self._note_end()
        except Fault as fault:
            self.end = ("fault", fault.why, fault.found)

    def _note_end(self):
        """Note the worth, where there is one now."""
        if self.machine.is_done():
            self.end = ("told", "", self.machine.worth())


def parted(store, one, other, name, *, args=(), named=None):
    """Where two runs differ, of the one and of the other in its place: ("stop", number), ("end",) or None."""
    check_store(store)
    store.record(one)
    store.record(other)
    check_name(name)
    places, names = store.args_given(args), store.rows_given(named)
    numbers = {one[1]: other[1]}
    first = Side(store.twin(), one, name, places, names)
    second = Side(store.twin(), other, name, [put_otherwise(worth, numbers) for worth in places],
                  {key: put_otherwise(worth, numbers) for key, worth in names.items()})
    stops = 0
    while not first.end and not second.end:
        if not _are_same_frames(first.machine.frames_told(), second.machine.frames_told(), (one, other)):
            return "stop", stops
        first.step()
        second.step()
        stops += 1
    if not first.end or not second.end:
        return "stop", stops
    are_same = first.end[:2] == second.end[:2] and _are_same(first.end[2], second.end[2], (one, other))
    return None if are_same else ("end",)


def _are_same_frames(first, second, pair):
    """Whether what is told of the frames of two runs is the same, but that a pair of things stands for each other."""
    return len(first) == len(second) and all([_is_same_frame(one, other, pair) for one, other in zip(first, second)])


def _is_same_frame(first, second, pair):
    """Likewise, of two frames."""
    if first[:2] != second[:2] or list(first[2]) != list(second[2]):
        return False
    return all([_are_same(worth, second[2][name], pair) for name, worth in first[2].items()])


def _are_same(first, second, pair):
    """Likewise, of two worths, or of what was found with two Faults."""
    if is_row(first) and is_row(second):
        return len(first[1]) == len(second[1]) and all(
            [_are_same(one, other, pair) for one, other in zip(first[1], second[1])])
    return first == second or (first, second) == pair
