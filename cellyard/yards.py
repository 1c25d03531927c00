"""All that a yard holds, and what is done to it: [3.1] to [7.2]."""

from cellyard.errors import (
    Fixed, Guarded, Held, Itself, NoCell, NoChild, NoNumber, NoSuch, NotYet, NoWords, Taken, TooFew)
from cellyard.groups import OUTERMOST, Groups, check_caps, check_heft
from cellyard.layers import are_words, check_name, check_path, flat
from cellyard.numbers import is_within, plus
from cellyard.processes import FIRST_OWN, MAX_OUTCOME, Processes
from cellyard.rooms import FIRST, Rooms, check_kinds, store_names
from cellyard.sharing import MAX_AMOUNT, MAX_MOST
from cellyard.stores import Stores
from cellyard.turns import parted_turns

STRUCK = 9
MAX_UNITS = 999


class Ground:
    """What a yard holds: groups, processes, rooms, stores, and cells, whose first processes `cells` has by name.

    What concerns groups alone, or stores alone, is done to these; all else is done here. Each deed looks for all that
    is to be refused ahead of the first change.
    """

    def __init__(self):
        self.groups = Groups()
        self.rooms = Rooms()
        self.stores = Stores()
        self.processes = Processes()
        self.cells = {}
        first = self.processes.come(None, OUTERMOST)
        self.rooms.settle_first(first.own)
        self.groups.admit(OUTERMOST, heads=1)

    def acting(self, own):
        """The process of this own number, which goes and is not frozen."""
        process = self.processes.going(own)
        self.groups.check_thawed(process.group)
        return process

    def remove_group(self, name):
        """The group is no more."""
        if self.is_cell(name):
            raise Held("the group of a cell goes with the cell alone")
        self.groups.remove_group(name)

    def spawn(self, own, *, fresh=()):
        """A young process of this one, in new rooms of the kinds told by fresh; told is its own number."""
        elder = self.acting(own)
        check_kinds(fresh)
        self.groups.admit(elder.group, heads=1)
        young = self.processes.come(own, elder.group)
        self.rooms.settle(young.own, own, fresh)
        return young.own

    def move(self, own, name):
        """The process is in this group from now on."""
        process = self.processes.going(own)
        group = self.groups.known(name)
        if own == FIRST_OWN:
            raise Guarded("the first process of the yard does not move")
        if group.name == process.group:
            raise Itself(f"it is in the group {name} already")
        self.groups.transfer(process.group, name, heads=1, units=process.units)
        process.group = name

    def finish(self, own, outcome=0):
        """The process ends; told is how many ended with that."""
        self.acting(own)
        if not is_within(outcome, 0, MAX_OUTCOME):
            raise NoNumber(f"an outcome is a whole number from 0 to {MAX_OUTCOME}")
        if own == FIRST_OWN:
            raise Guarded("the first process of the yard does not end")
        return self.end_with_bound(own, outcome)

    def strike(self, own, number):
        """The process of this number in the room of this one ends; told is how many ended with that."""
        self.acting(own)
        struck = self.rooms.own_of(own, number)
        if not self.processes.goes(struck):
            raise NoSuch("nobody that goes has this number there")
        if number == FIRST:
            raise Guarded("the first of a room is not struck from inside")
        return self.end_with_bound(struck, STRUCK)

    def end_with_bound(self, own, outcome):
        """The process ends, and with the first of a room all others there and within; told is how many ended."""
        bound = self.rooms.bound_to(own)
        many = 1 + len([other for other in bound if self.processes.goes(other)])
        for other in bound:
            self.drop(other)
        self.pass_on_young(own)
        self.lay_down(own, outcome)
        return many

    def pass_on_young(self, own):
        """The young ones of the process, which ends, get another elder."""
        elder = self.rooms.next_elder(own)
        for young in self.processes.young_of(own):
            young.elder = elder
            self.drop_unawaited(young)

    def lay_down(self, own, outcome):
        """The process has ended, with this outcome."""
        process = self.processes.going(own)
        self.groups.release(process.group, units=process.units)
        process.units = 0
        process.want = 0
        process.has_ended = True
        process.outcome = outcome
        self.rooms.end(own)
        self.drop_unawaited(process)

    def drop_unawaited(self, process):
        """A process that ended is no more where its elder is the first of the yard."""
        if process.has_ended and process.elder == FIRST_OWN:
            self.drop(process.own)

    def drop(self, own):
        """The process, which may go or have ended, is no more."""
        process = self.processes.by_own[own]
        self.groups.release(process.group, heads=1, units=process.units)
        self.rooms.leave(own)
        self.processes.forget(own)

    def wait(self, own):
        """The young one that ended and has the least number in the room of this one is no more."""
        self.acting(own)
        young = self.processes.young_of(own)
        if len(young) == 0:
            raise NoChild("it has no young ones")
        ended = [
            (self.rooms.number_seen(own, process.own), process.outcome, process.own)
            for process in young if process.has_ended]
        if len(ended) == 0:
            raise NotYet("none of its young ones ended")
        number, outcome, awaited = min(ended)
        self.drop(awaited)
        return (number, outcome)

    def set_want(self, own, many):
        """The process wants so many turns at each tick."""
        process = self.acting(own)
        if not is_within(many, 0, MAX_MOST):
            raise NoNumber(f"what is wanted is a whole number from 0 to {MAX_MOST}")
        process.want = many

    def set_heft(self, own, heft):
        """The process has this weight."""
        process = self.processes.going(own)
        check_heft(heft)
        process.heft = heft

    def grow(self, own, many):
        """The process holds so many units more; told is how many then."""
        process = self.acting(own)
        check_units(many)
        self.groups.admit(process.group, units=many)
        process.units += many
        return process.units

    def shrink(self, own, many):
        """The process holds so many units fewer; told is how many then."""
        process = self.acting(own)
        check_units(many)
        if many > process.units:
            raise TooFew("it holds fewer units than that")
        self.groups.release(process.group, units=many)
        process.units -= many
        return process.units

    def tick(self, amount):
        """So many turns are given, at most; told is a rising list of tuples (own number, share)."""
        if not is_within(amount, 0, MAX_AMOUNT):
            raise NoNumber(f"an amount is a whole number from 0 to {MAX_AMOUNT}")
        given = parted_turns(self.groups, self.processes, amount)
        for own, share in given:
            process = self.processes.going(own)
            process.got = plus(process.got, share)
        return given

    def remove_store(self, name):
        """The store is no more."""
        self.stores.texts_in(name)
        if self.is_cell(name) or self.rooms.is_mounted(name):
            raise Held(f"the store {name} is a cell's, or mounted")
        self.stores.forget_store(name)

    def mount(self, own, path, name, *, held_fast=False):
        """The store is mounted at this path in the process's room of mounts."""
        self.acting(own)
        check_path(path)
        self.stores.texts_in(name)
        self.rooms.mount(own, path, name, held_fast=held_fast)

    def unmount(self, own, path):
        """Nothing is mounted at this path in the process's room of mounts any more."""
        self.acting(own)
        self.rooms.unmount(own, path)

    def write(self, own, path, text):
        """The file bears this text from now on."""
        self.acting(own)
        name, rest, held_fast = self.rooms.spot_of(own, path)
        if not are_words(text):
            raise NoWords("no file bears such a text")
        check_loose(held_fast)
        self.stores.put_text(name, rest, text)

    def erase(self, own, path):
        """The file is no more."""
        self.acting(own)
        name, rest, held_fast = self.rooms.spot_of(own, path)
        check_loose(held_fast)
        self.stores.take_file(name, rest)

    def post(self, own, name, text):
        """The box of this name in the process's room of boxes bears this text, or, by None, is no more."""
        self.acting(own)
        self.rooms.post(own, name, text)

    def is_cell(self, name):
        """Whether the thing is a cell's name."""
        return isinstance(name, str) and name in self.cells

    def check_cell(self, name):
        """Refuse what is no cell."""
        if not self.is_cell(name):
            raise NoCell("there is no cell of this name")

    def check_free(self, name):
        """Refuse a name for a new cell that a group or a store has."""
        if name in self.groups.by_name or self.stores.is_store(name):
            raise Taken(f"there is a group or a store {name} already")

    def open_cell(self, name, layers, *, heft=1, unit_cap=None, head_cap=None, turn_cap=None):
        """A cell of these files, weight and limits; told is the own number of its first process."""
        check_name(name)
        found = flat(layers)
        check_heft(heft)
        check_caps((unit_cap, head_cap, turn_cap))
        self.check_free(name)
        self.groups.check_space(OUTERMOST, heads=1)
        if head_cap == 0:
            raise NoNumber("a cell has a first process from the start")
        self.groups.make_group(
            name, OUTERMOST, heft=heft, unit_cap=unit_cap, head_cap=head_cap, turn_cap=turn_cap)
        self.groups.admit(name, heads=1)
        self.stores.fill(name, found)
        first = self.processes.come(FIRST_OWN, name)
        self.rooms.settle_in_cell(first.own, name)
        self.cells[name] = first.own
        return first.own

    def close_cell(self, name):
        """The cell is no more, nor its groups, its store and all processes in it; told is how many ended with that."""
        self.check_cell(name)
        names = self.groups.names_within(name)
        self.check_unmounted_outside(name, names)
        many = 0
        for process in self.processes.all_in(names):
            many += self.end_for_good(process.own)
        # The innermost first, as no group goes while another lies in it.
        for inner in reversed(names):
            self.groups.remove_group(inner)
        self.stores.forget_store(name)
        del self.cells[name]
        return many

    def check_unmounted_outside(self, name, names):
        """Refuse where the store is mounted for a process that goes and is in no group of these names."""
        for process in self.processes.all_going():
            room = self.rooms.seats[process.own].mounts
            if process.group not in names and name in store_names(room):
                raise Held(f"the store {name} is mounted outside of the cell")

    def end_for_good(self, own):
        """The process, which may be no more already, ends and is no more; told is how many ended with that."""
        many = self.end_with_bound(own, STRUCK) if self.processes.goes(own) else 0
        if own in self.processes.by_own:
            self.drop(own)
        return many

    def first_of_cell(self, name):
        """The own number of the cell's first process, or None, where that does not go."""
        first = self.cells[name]
        return first if self.processes.goes(first) else None


def check_units(many):
    """Refuse what is no number of units to be taken or given back."""
    if not is_within(many, 1, MAX_UNITS):
        raise NoNumber(f"units are taken and given back by a whole number from 1 to {MAX_UNITS}")


def check_loose(held_fast):
    """Refuse a change of a file whose mount is held fast."""
    if held_fast:
        raise Fixed("the mount is held fast")
