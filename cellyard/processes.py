"""Processes, told by their own numbers, their elders and what they hold: [4.1], [4.2]."""

from cellyard.errors import NoProcess
from cellyard.numbers import is_whole

FIRST_OWN = 1
MAX_OUTCOME = 255


class Process:
    """A process: its elder is told by its own number, None of the first; its group by its name."""

    def __init__(self, own, elder, group):
        self.own = own
        self.elder = elder
        self.group = group
        self.heft = 1
        self.units = 0
        self.want = 0
        self.got = (0, 1)
        self.has_ended = False
        self.outcome = 0


class Processes:
    """All processes of a yard, those that ended and are not waited for, too, by rising own numbers."""

    def __init__(self):
        self.by_own = {}
        self.next_own = FIRST_OWN

    def come(self, elder, group):
        """A process of the next own number; told is the process."""
        process = Process(self.next_own, elder, group)
        self.by_own[process.own] = process
        self.next_own += 1
        return process

    def forget(self, own):
        """The process is no more."""
        del self.by_own[own]

    def goes(self, own):
        """Whether the thing is the own number of a process that goes."""
        return is_whole(own) and own in self.by_own and not self.by_own[own].has_ended

    def going(self, own):
        """The process of this own number, which goes."""
        if not self.goes(own):
            raise NoProcess("no process that goes has this own number")
        return self.by_own[own]

    def all_going(self):
        """A list of all that go, by rising own numbers."""
        return [process for process in self.by_own.values() if not process.has_ended]

    def all_ended(self):
        """A list of all that ended and are not waited for, by rising own numbers."""
        return [process for process in self.by_own.values() if process.has_ended]

    def all_in(self, names):
        """A list of all that are in groups of these names, by rising own numbers."""
        return [process for process in self.by_own.values() if process.group in names]

    def young_of(self, own):
        """A list of all whose elder the process is, by rising own numbers."""
        return [process for process in self.by_own.values() if process.elder == own]
