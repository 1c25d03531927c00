"""Groups in groups, with weights and limits, frozen and thawed: [3.1] to [3.3], and what [8.2] tells of them."""

from cellyard.errors import Capped, Frozen, Held, Itself, NoGroup, NoNumber, Over, Taken
from cellyard.layers import check_name
from cellyard.nesting import outwards
from cellyard.numbers import is_within
from cellyard.sharing import MAX_WEIGHT

OUTERMOST = "yard"
MAX_CAP = 9999


class Group:
    """A group that lies in the group `outer`, which is None of the outermost one.

    Its units and heads, which are processes, are those of the groups within, too.
    """

    def __init__(self, name, outer, heft):
        self.name = name
        self.outer = outer
        self.heft = heft
        self.unit_cap = None
        self.head_cap = None
        self.turn_cap = None
        self.frozen = False
        self.units = 0
        self.heads = 0

    def put_caps(self, unit_cap, head_cap, turn_cap):
        """Its limits are these."""
        self.unit_cap = unit_cap
        self.head_cap = head_cap
        self.turn_cap = turn_cap

    def row(self):
        """What is told of it: name, group in which it lies, weight, three limits, whether it is frozen itself."""
        lies_in = None if self.outer is None else self.outer.name
        return (self.name, lies_in, self.heft, self.unit_cap, self.head_cap, self.turn_cap, self.frozen)


class Groups:
    """All groups of a yard, with how many units and processes are in them.

    In `by_name` each stands behind that in which it lies, as that was there when it was made, and stays till it is
    no more.
    """

    def __init__(self):
        self.by_name = {OUTERMOST: Group(OUTERMOST, None, 1)}

    def known(self, name):
        """The group of this name."""
        if not isinstance(name, str) or name not in self.by_name:
            raise NoGroup("there is no group of this name")
        return self.by_name[name]

    def known_inner(self, name):
        """The group of this name, which is not the outermost one."""
        group = self.known(name)
        if group.outer is None:
            raise NoGroup(f"{OUTERMOST} is none of the groups that this may be done to")
        return group

    def make_group(self, name, inner, *, heft=1, unit_cap=None, head_cap=None, turn_cap=None):
        """A group of this weight and these limits in the group inner."""
        check_name(name)
        outer = self.known(inner)
        check_heft(heft)
        check_caps((unit_cap, head_cap, turn_cap))
        if name in self.by_name:
            raise Taken(f"there is a group {name} already")
        group = Group(name, outer, heft)
        group.put_caps(unit_cap, head_cap, turn_cap)
        self.by_name[name] = group

    def set_caps(self, name, *, unit_cap=None, head_cap=None, turn_cap=None):
        """The group's limits are these."""
        group = self.known(name)
        check_caps((unit_cap, head_cap, turn_cap))
        if passes(group.units, unit_cap):
            raise Over(group.units)
        if passes(group.heads, head_cap):
            raise Over(group.heads)
        group.put_caps(unit_cap, head_cap, turn_cap)

    def names_within(self, name):
        """A list of the group's name and those of all that lie in it, each behind that in which it lies."""
        group = self.known(name)
        return [other.name for other in self.by_name.values() if group in outwards(other)]

    def has_inner(self, name):
        """Whether a group lies in this one."""
        group = self.known(name)
        return any([other.outer == group for other in self.by_name.values()])

    def remove_group(self, name):
        """The group is no more."""
        group = self.known_inner(name)
        if group.heads > 0 or self.has_inner(name):
            raise Held(f"something is in the group {name}")
        del self.by_name[name]

    def freeze(self, name):
        """The group is frozen itself; told is how many processes are in it and within."""
        group = self.known_inner(name)
        if group.frozen:
            raise Itself(f"the group {name} is frozen itself already")
        group.frozen = True
        return group.heads

    def thaw(self, name):
        """The group is no longer frozen itself; told is how many processes are in it and within."""
        group = self.known_inner(name)
        if not group.frozen:
            raise Itself(f"the group {name} is not frozen itself")
        group.frozen = False
        return group.heads

    def outermost_frozen(self, name):
        """The name of the outermost group, of this one and those in which it lies, that is frozen itself, or None."""
        frozen = [group.name for group in outwards(self.known(name)) if group.frozen]
        return None if len(frozen) == 0 else frozen[-1]

    def check_thawed(self, name):
        """Refuse where the group, or one in which it lies, is frozen itself."""
        frozen = self.outermost_frozen(name)
        if frozen is not None:
            raise Frozen(frozen)

    def limit_turns(self, name, turns):
        """How many turns the group wants, where all in it want so many together."""
        group = self.known(name)
        if group.frozen:
            return 0
        return group.turn_cap if passes(turns, group.turn_cap) else turns

    def check_space(self, name, *, heads=0, units=0):
        """Refuse so many more processes, then so many more units, where a limit would be passed."""
        check_space_in(outwards(self.known(name)), heads, units)

    def admit(self, name, *, heads=0, units=0):
        """So many more processes, and units, are in the group."""
        entered = outwards(self.known(name))
        check_space_in(entered, heads, units)
        charge(entered, heads, units)

    def release(self, name, *, heads=0, units=0):
        """So many fewer processes, and units, are in the group."""
        charge(outwards(self.known(name)), -heads, -units)

    def transfer(self, old, new, *, heads, units):
        """So many processes, and units, are no longer in the old group, but in the new one."""
        left = outwards(self.known(old))
        entered = outwards(self.known(new))
        # In a group that is left and entered nothing becomes more.
        check_space_in([group for group in entered if group not in left], heads, units)
        charge(left, -heads, -units)
        charge(entered, heads, units)

    def charges(self, name):
        """A tuple of how many units, and how many processes, the group and those within have."""
        group = self.known(name)
        return (group.units, group.heads)

    def rows(self):
        """A rising list of what is told of each group."""
        return sorted([group.row() for group in self.by_name.values()])


def charge(groups, heads, units):
    """So many more processes, and units, are in each of the groups."""
    for group in groups:
        group.heads += heads
        group.units += units


def passes(many, cap):
    """Whether so many are more than the limit, which is None where there is none."""
    return cap is not None and many > cap


def is_heft(thing):
    """Whether the thing is a weight."""
    return is_within(thing, 1, MAX_WEIGHT)


def check_heft(thing):
    """Refuse what is no weight."""
    if not is_heft(thing):
        raise NoNumber(f"a weight is a whole number from 1 to {MAX_WEIGHT}")


def is_cap(thing):
    """Whether the thing is a limit, which is None where there is none."""
    return thing is None or is_within(thing, 0, MAX_CAP)


def check_caps(caps):
    """Refuse limits that are none."""
    if not all([is_cap(cap) for cap in caps]):
        raise NoNumber(f"a limit is None or a whole number from 0 to {MAX_CAP}")


def check_space_in(groups, heads, units):
    """Refuse what would pass a limit of processes of these groups, the innermost first; then one of units."""
    for group in groups:
        if passes(group.heads + heads, group.head_cap):
            raise Capped(group.name)
    for group in groups:
        if passes(group.units + units, group.unit_cap):
            raise Capped(group.name)
