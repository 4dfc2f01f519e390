"""The least k for which seen and barred runs do not clash, with papers for it."""

from fromruns.apart import machine_apart
from fromruns.derivations import derive
from fromruns.learning import learn
from fromruns.machines import takes
from fromruns.papers import derives_barred, tells_apart
from fromruns.words import in_order


def fit_paper(seen, barred):
    """Return a fit paper, or None if a barred run is seen."""
    told = fits(seen, barred)
    if any([least is None for _, least in told]):
        return None
    k = max([least for _, least in told], default=0)
    machine = machine_apart(seen, barred, k)
    if k == 0:
        return 0, machine, ()
    last = [run for run, least in told if least == k][0]
    return k, machine, derive(seen, k - 1, last)


def judge_fit(seen, barred, paper):
    """Tell whether the paper is a fit paper."""
    k, machine, lines = paper
    if not tells_apart(machine, seen, barred, k):
        return False
    return derives_barred(seen, barred, k - 1, lines) if k > 0 else len(lines) == 0


def fits(seen, barred):
    """Return the tuple of the pairs of each barred run and the least k whose closure does not have it, or None."""
    found = {run: None for run in in_order(barred)}
    left = [run for run in found if run not in seen]
    k = 0
    while left:
        machine = learn(seen, k)
        for run in left:
            if not takes(machine, run):
                found[run] = k
        left = [run for run in left if found[run] is None]
        k += 1
    return tuple(found.items())
