"""The least k-closed language that has what was seen."""

from fromruns.combining import either
from fromruns.exploring import reached
from fromruns.lumping import lumps_of_runs, settled
from fromruns.machines import takes
from fromruns.reducing import EMPTY
from fromruns.words import in_order, last_letters


def close(machine, k):
    """Return the machine of the closure of the machine's language."""
    if not machine[0]:
        return EMPTY
    found, rows = reached((0, ""), lead_steps(machine, k))
    ends = [at for at, (state, _) in enumerate(found) if state in machine[1]]
    return settled(rows, ends, [v for _, v in found]).machine()


def lead_steps(machine, k):
    """Return the steps of the leads of the machine."""
    rows, _ = machine

    def steps(lead):
        state, v = lead
        return [(letter, (there, last_letters(v + letter, k))) for letter, there in rows[state]]

    return steps


def learn(runs, k):
    """Return the machine of the closure of the set of the runs."""
    return lumps_of_runs(runs, k).machine()


def join(first, second, k):
    """Return the machine of the least k-closed language that has all runs of two machines."""
    return close(either(first, second), k)


def staircase(runs):
    """Return the tuple of the machines learned for each k up to the number of letters of the longest run."""
    longest = max([len(run) for run in runs], default=0)
    return tuple([learn(runs, k) for k in range(longest + 1)])


def leads(machine, k):
    """Return the tuple of all leads of the machine, in the order of their first runs."""
    if not machine[0]:
        return ()
    found, _ = reached((0, ""), lead_steps(machine, k))
    return tuple(found)


def first_unexplained(seen, runs, k):
    """Return the first of the runs that is not in the closure of the seen ones, or None."""
    machine = learn(seen, k)
    strange = [run for run in in_order(runs) if not takes(machine, run)]
    return strange[0] if strange else None


def same_protocol(first, second, k):
    """Tell whether the two tuples of runs have the same closure."""
    return learn(first, k) == learn(second, k)
