"""Supports: as few of the runs as it takes for a run to be in their closure."""

from fromruns.barring import first_clash
from fromruns.lumping import lumps_of_runs
from fromruns.words import in_order, without_run


def support(runs, k, run):
    """Return the first support of the run, or None if the closure of the runs does not have it."""
    left = in_order(runs)
    if not explains(left, k, run):
        return None
    for other in reversed(in_order(runs)):
        fewer = without_run(left, other)
        if explains(fewer, k, run):
            left = fewer
    return left


def explains(runs, k, run):
    """Tell whether the closure of the runs has the run."""
    return lumps_of_runs(runs, k).has(run)


def judge_support(runs, k, run, paper):
    """Tell whether the paper is a support of the run."""
    if paper != in_order(paper) or not all([told in runs for told in paper]):
        return False
    return explains(paper, k, run) and not any([explains(without_run(paper, told), k, run) for told in paper])


def blame(seen, barred, k):
    """Return the pair of the first barred run that the closure of the seen ones has and its first support, or None."""
    clash = first_clash(seen, barred, k)
    if clash is None:
        return None
    return clash, support(seen, k, clash)
