"""Small machines that tell seen runs from barred ones, for papers that may have any such machine."""

from fromruns.exploring import reached
from fromruns.learning import learn
from fromruns.lumping import Lumps, grown, settled
from fromruns.words import beginnings, in_order, last_letters

MOST_STATES = 64


def machine_apart(seen, barred, k):
    """Return a k-closed machine that takes all seen runs and no barred one; they do not clash for k."""
    machine = learn(seen, k)
    # The closure of the seen runs may have more states than the machine of a paper. What is closed for a smaller
    # number is closed for k, too, and mostly has fewer states.
    for fewer in range(k):
        if len(machine[0]) <= MOST_STATES:
            return machine
        machine = smaller_machine(seen, barred, last_ones(seen, fewer)) or machine
    if len(machine[0]) <= MOST_STATES:
        return machine
    return machine_beside(seen, barred, k) or smaller_machine(seen, barred, last_ones(seen, k))


def last_ones(seen, k):
    """Return the dict of the last k letters of each beginning of the seen runs."""
    return {name: last_letters(name, k) for name in beginnings(seen)}


def machine_beside(seen, barred, k):
    """Return a small machine as machine_apart does, or None if none is found.

    What led to a state is looked at only as far as it is like a part of a barred
    run, and at no more of these parts than it takes.
    """
    for reach in range(max([len(run) for run in barred], default=0) + 1):
        parts = parts_of_barred(barred, k, reach)
        machine = smaller_machine(seen, barred, {name: last_part(name, parts) for name in beginnings(seen)})
        if machine is not None:
            return machine if len(machine[0]) <= MOST_STATES else None
    return None


def parts_of_barred(barred, k, reach):
    """Return the dict of the parts of the barred runs that are looked at.

    They are the beginnings with less than k letters, each with a full stop
    ahead, and the parts with at most k letters that begin behind less than
    reach letters. Each is one letter more than another one of them, or none.
    So which of them is the longest one at the end of a run is told by which one
    was it before, and by the last letter; and it is told by the last k letters
    of a run that has so many. Therefore what is closed for them is k-closed.
    """
    parts = {"": True}
    for run in barred:
        for end in range(len(run) + 1):
            if end < k:
                parts["." + run[:end]] = True
            for start in range(max(0, end - k), min(reach, end)):
                parts[run[start:end]] = True
    return parts


def last_part(run, parts):
    """Return the longest one of the parts that the run, with a full stop ahead, ends with."""
    whole = "." + run
    return [whole[at:] for at in range(len(whole) + 1) if whole[at:] in parts][0]


def smaller_machine(seen, barred, leaders):
    """Return a machine, closed for the leaders, that takes all seen runs and no barred one, or None if they clash."""
    rows, ends, _, names = grown(in_order(seen), 0)
    lumps = settled(rows, ends, [leaders[name] for name in names])
    if has_some(lumps, barred):
        return None
    kept = 0
    graph = graph_of(lumps)
    while kept < len(graph[0]) and len(lumps.machine()[0]) > MOST_STATES:
        joined = joined_with_earlier(graph, kept, barred)
        if joined is None:
            kept += 1
        else:
            lumps = joined
            graph = graph_of(lumps)
    return lumps.machine()


def has_some(lumps, runs):
    """Tell whether the lumps take one of the runs."""
    return any([lumps.has(run) for run in runs])


def graph_of(lumps):
    """Return the arrows, the ends and the leaders of the lumps, numbered in the order of their first runs."""
    found, rows = reached(lumps.lump_of(0), lumps.steps)
    marks = lumps.end_lumps()
    ends = [at for at, lump in enumerate(found) if lump in marks]
    return rows, ends, [lumps.leaders[lump] for lump in found]


def joined_with_earlier(graph, state, barred):
    """Return the lumps in which the state is put together with an earlier one, and no barred run comes in, or None."""
    leaders = graph[2]
    for earlier in range(state):
        if leaders[earlier] == leaders[state]:
            lumps = Lumps(*graph)
            lumps.queue.append((earlier, state, earlier, state, "wanted"))
            lumps.settle()
            if not has_some(lumps, barred):
                return lumps
    return None
