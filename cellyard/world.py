"""The yard: what is done to it, with all deeds that were not refused kept in their order."""

from cellyard.deeds import do_deed
from cellyard.pictures import picture_of
from cellyard.yards import Ground


class Yard:
    """A yard: `ground` is all that it holds, `done` the deeds that brought it there."""

    def __init__(self):
        self.ground = Ground()
        self.done = []

    def __eq__(self, other):
        return isinstance(other, Yard) and self.done == other.done

    def __len__(self):
        return len(self.ground.processes.all_going())

    def __repr__(self):
        return f"Yard({self.counts()})"

    def counts(self):
        """How many processes, those that ended, too, how many groups and how many stores there are, as a text."""
        held = [self.ground.processes.by_own, self.ground.groups.by_name, self.ground.stores.texts_by_name]
        return ", ".join([str(len(each)) for each in held])

    def act(self, deed):
        """Do the deed and keep it, unless it is refused; told is what it tells."""
        told = do_deed(self.ground, deed)
        self.done.append(deed)
        return told

    def make_group(self, name, inner, *, heft=1, unit_cap=None, head_cap=None, turn_cap=None):
        """A group of this weight and these limits, in the group inner."""
        return self.act(("group", name, inner, heft, unit_cap, head_cap, turn_cap))

    def set_caps(self, name, *, unit_cap=None, head_cap=None, turn_cap=None):
        """The group's limits are these."""
        return self.act(("caps", name, unit_cap, head_cap, turn_cap))

    def remove_group(self, name):
        """The group is no more."""
        return self.act(("ungroup", name))

    def freeze(self, name):
        """The group is frozen, and all in it and within; told is how many processes these are."""
        return self.act(("freeze", name))

    def thaw(self, name):
        """The group is no longer frozen itself; told is how many processes are in it and within."""
        return self.act(("thaw", name))

    def spawn(self, own, *, fresh=()):
        """A young process of this one, in new rooms of the kinds told by fresh; told is its own number."""
        return self.act(("spawn", own, fresh))

    def move(self, own, name):
        """The process is in this group from now on."""
        return self.act(("move", own, name))

    def finish(self, own, outcome=0):
        """The process ends; told is how many ended with that."""
        return self.act(("finish", own, outcome))

    def strike(self, own, number):
        """Who has this number in the room of the process ends; told is how many ended with that."""
        return self.act(("strike", own, number))

    def wait(self, own):
        """A young one of the process that ended is no more; told is a tuple of its number and its outcome."""
        return self.act(("wait", own))

    def set_want(self, own, many):
        """The process wants so many turns at each tick."""
        return self.act(("want", own, many))

    def set_heft(self, own, heft):
        """The process has this weight."""
        return self.act(("heft", own, heft))

    def grow(self, own, many):
        """The process holds so many units more; told is how many then."""
        return self.act(("grow", own, many))

    def shrink(self, own, many):
        """The process holds so many units fewer; told is how many then."""
        return self.act(("shrink", own, many))

    def tick(self, amount):
        """So many turns are given, at most; told is a rising list of tuples (own number, share)."""
        return self.act(("tick", amount))

    def add_store(self, name, layers):
        """A store of the files that the layers come to; told is how many."""
        return self.act(("store", name, layers))

    def remove_store(self, name):
        """The store is no more."""
        return self.act(("unstore", name))

    def mount(self, own, path, name, *, held_fast=False):
        """The store is mounted at this path in the process's room of mounts."""
        return self.act(("mount", own, path, name, held_fast))

    def unmount(self, own, path):
        """Nothing is mounted at this path in the process's room of mounts any more."""
        return self.act(("unmount", own, path))

    def write(self, own, path, text):
        """The file bears this text from now on."""
        return self.act(("write", own, path, text))

    def erase(self, own, path):
        """The file is no more."""
        return self.act(("erase", own, path))

    def post(self, own, name, text):
        """The box of this name in the process's room of boxes bears this text, or, by None, is no more."""
        return self.act(("post", own, name, text))

    def open_cell(self, name, layers, *, heft=1, unit_cap=None, head_cap=None, turn_cap=None):
        """A cell of these files, weight and limits; told is the own number of its first process."""
        return self.act(("cell", name, layers, heft, unit_cap, head_cap, turn_cap))

    def close_cell(self, name):
        """The cell is no more, nor what is in it; told is how many processes ended with that."""
        return self.act(("uncell", name))

    def picture(self, name):
        """All that is inside the cell, a tuple of eight; nothing is done by that."""
        return picture_of(self.ground, name)

    def restore(self, name, picture):
        """A cell of this name in which all is as the picture has it; told is the own number of its first."""
        return self.act(("restore", name, picture))
