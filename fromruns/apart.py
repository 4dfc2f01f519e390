"""Small machines that tell seen runs from barred ones, for papers that may have any such machine."""

from fromruns.exploring import reached
from fromruns.learning import learn
from fromruns.lumping import Lumps, lumps_of_runs
from fromruns.words import in_order

MOST_STATES = 64


def machine_apart(seen, barred, k):
    """Return a k-closed machine that takes all seen runs and no barred one; they do not clash for k."""
    machine = learn(seen, k)
    # The closure of the seen runs may have more states than the machine of a paper. What is closed for a smaller
    # number is closed for k, too, and mostly has fewer states.
    for fewer in range(k + 1):
        if len(machine[0]) <= MOST_STATES:
            return machine
        machine = smaller_machine(in_order(seen), barred, fewer) or machine
    return machine


def smaller_machine(seen, barred, k):
    """Return a k-closed machine with fewer states that takes all seen runs and no barred one, or None if they clash."""
    lumps = lumps_of_runs(seen, k)
    if has_some(lumps, barred):
        return None
    kept = 0
    graph = graph_of(lumps)
    while kept < len(graph[0]) and len(lumps.machine()[0]) > MOST_STATES:
        joined = joined_with_earlier(graph, kept, barred)
        if joined is None:
            kept += 1
        else:
            lumps = joined
            graph = graph_of(lumps)
    return lumps.machine()


def has_some(lumps, runs):
    """Tell whether the lumps take one of the runs."""
    return any([lumps.has(run) for run in runs])


def graph_of(lumps):
    """Return the arrows, the ends and the leaders of the lumps, numbered in the order of their first runs."""
    found, rows = reached(lumps.lump_of(0), lumps.steps)
    marks = lumps.end_lumps()
    ends = [at for at, lump in enumerate(found) if lump in marks]
    return rows, ends, [lumps.leaders[lump] for lump in found]


def joined_with_earlier(graph, state, barred):
    """Return the lumps in which the state is put together with an earlier one, and no barred run comes in, or None."""
    leaders = graph[2]
    for earlier in range(state):
        if leaders[earlier] == leaders[state]:
            lumps = Lumps(*graph)
            lumps.queue.append((earlier, state, earlier, state, "wanted"))
            lumps.settle()
            if not has_some(lumps, barred):
                return lumps
    return None
