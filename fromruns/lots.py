"""Lots: some of a machine's runs from which all of them are learned."""

from fromruns.classes import fault
from fromruns.errors import NotClosed
from fromruns.learning import close, lead_steps, leads, learn
from fromruns.lumping import lumps_of_runs
from fromruns.machines import tail, takes
from fromruns.words import in_order, without_run


def lot(machine, k):
    """Return a lot of the machine for k."""
    rows, _ = machine
    tails = [tail(machine, state) for state in range(len(rows))]
    found = []
    for (state, _), run in first_runs(machine, k):
        found.append(run + tails[state])
        found.extend([run + letter + tails[there] for letter, there in rows[state]])
    return in_order(found)


def first_runs(machine, k):
    """Return the list of the pairs of each lead and its first run, in the order of these runs."""
    steps = lead_steps(machine, k)
    runs = {}
    for lead in leads(machine, k):
        run = runs.setdefault(lead, "")
        for letter, there in steps(lead):
            runs.setdefault(there, run + letter)
    return list(runs.items())


def teach(machine, k):
    """Return a lot of a machine that is k-closed; raise NotClosed with a fault if it is not."""
    wrong = fault(machine, k)
    if wrong is not None:
        raise NotClosed(wrong)
    return lot(machine, k)


def is_lot(machine, k, runs):
    """Tell whether the runs, in any order, are a lot of the machine for k."""
    return all([takes(machine, run) for run in runs]) and learn(runs, k) == close(machine, k)


def spare_runs(runs, k):
    """Return the tuple, in order, of the runs that are in the closure of the other ones."""
    ordered = in_order(runs)
    return tuple([run for run in ordered if is_spare(ordered, k, run)])


def is_spare(runs, k, run):
    """Tell whether the run is in the closure of the other runs."""
    return lumps_of_runs(without_run(runs, run), k).has(run)


def lean_lot(runs, k):
    """Return the lean lot of the runs, in order."""
    left = list(in_order(runs))
    for run in reversed(in_order(runs)):
        if is_spare(left, k, run):
            left.remove(run)
    return tuple(left)
