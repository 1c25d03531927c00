"""What groups want at a tick, and how turns are parted among groups in groups and their processes: [5.2]."""

from cellyard.groups import OUTERMOST
from cellyard.sharing import parted


def wants_of_groups(groups, processes):
    """How many turns each group wants at a tick, by its name."""
    wanted = {name: 0 for name in groups.by_name}
    for process in processes.all_going():
        wanted[process.group] += process.want
    # From behind, so that all that lies in a group is counted when it comes to its limit.
    for group in reversed(list(groups.by_name.values())):
        wanted[group.name] = groups.limit_turns(group.name, wanted[group.name])
        if group.outer is not None:
            wanted[group.outer.name] += wanted[group.name]
    return wanted


def takers_by_group(groups, processes, wanted):
    """For each group's name a list of tuples (taker, weight, want) of what is straight in it.

    Takers are groups, by their names, and processes that go, by their own numbers.
    """
    takers = {name: [] for name in groups.by_name}
    for group in groups.by_name.values():
        if group.outer is not None:
            takers[group.outer.name].append((group.name, group.heft, wanted[group.name]))
    for process in processes.all_going():
        takers[process.group].append((process.own, process.heft, process.want))
    return takers


def parted_turns(groups, processes, amount):
    """A rising list of tuples (own number, share) of all processes that get some of the amount at a tick."""
    wanted = wants_of_groups(groups, processes)
    takers = takers_by_group(groups, processes, wanted)
    gotten = {OUTERMOST: (min(amount, wanted[OUTERMOST]), 1)}
    for name in groups.by_name:
        wants = [(weight, want) for taker, weight, want in takers[name]]
        for (taker, weight, want), share in zip(takers[name], parted(gotten[name], wants)):
            gotten[taker] = share
    owns = [process.own for process in processes.all_going()]
    return [(own, gotten[own]) for own in owns if gotten[own] != (0, 1)]
