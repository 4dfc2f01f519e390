"""Seen runs and barred runs."""

from fromruns.errors import Clash
from fromruns.learning import close, learn
from fromruns.machines import takes
from fromruns.words import in_order


def first_clash(seen, barred, k):
    """Return the first barred run that the closure of the seen ones has, or None."""
    return first_taken(learn(seen, k), barred)


def first_taken(machine, runs):
    """Return the first of the runs, in their order, that the machine takes, or None."""
    taken = [run for run in in_order(runs) if takes(machine, run)]
    return taken[0] if taken else None


def least_fit(machine, barred):
    """Return the least k for which the closure of the machine has none of the barred runs, or None."""
    if first_taken(machine, barred) is not None:
        return None
    k = 0
    while first_taken(close(machine, k), barred) is not None:
        k += 1
    return k


def kind_of(seen, barred, k, run):
    """Return the kind of the run, "sure", "never" or "open"; raise Clash if seen and barred runs clash."""
    machine = learn(seen, k)
    clash = first_taken(machine, barred)
    if clash is not None:
        raise Clash(clash)
    if takes(machine, run):
        return "sure"
    return "open" if first_clash((*seen, run), barred, k) is None else "never"
