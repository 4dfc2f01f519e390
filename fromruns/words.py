"""Runs as strings, and tuples of runs in order."""


def in_order(runs):
    """Return the tuple of the runs in order, without duplicates."""
    return tuple(sorted(sorted(set(runs)), key=len))


def beginnings(runs):
    """Return the tuple of all beginnings of the runs, in order."""
    return in_order([run[:many] for run in runs for many in range(len(run) + 1)])


def last_letters(run, k):
    """Return the last k letters of the run, or the whole run if it has less."""
    return run[max(0, len(run) - k):]


def backwards(run):
    """Return the run read from the last letter to the first one."""
    return run[::-1]


def without_run(runs, run):
    """Return the tuple of the runs but this one."""
    return tuple([told for told in runs if told != run])
