"""Papers: what shows that a run is sure, never or open, or that a closure does not have it."""

from fromruns.apart import machine_apart
from fromruns.barring import first_clash, first_taken
from fromruns.classes import is_closed
from fromruns.derivations import derive, judge_derivation
from fromruns.errors import Clash
from fromruns.learning import learn
from fromruns.machines import takes


def barring_paper(runs, k, run):
    """Return a machine that is k-closed and takes all the runs, but not this run, or None if there is none."""
    if takes(learn(runs, k), run):
        return None
    return machine_apart(runs, (run,), k)


def judge_barring(runs, k, run, machine):
    """Tell whether the machine is a barring paper."""
    return tells_apart(machine, runs, (run,), k)


def tells_apart(machine, seen, barred, k):
    """Tell whether the machine is k-closed and takes all seen runs and no barred one."""
    if not all([takes(machine, run) for run in seen]) or first_taken(machine, barred) is not None:
        return False
    return is_closed(machine, k)


def kind_paper(seen, barred, k, run):
    """Return the pair of the kind of the run and a paper for it; raise Clash if seen and barred runs clash."""
    machine = learn(seen, k)
    clash = first_taken(machine, barred)
    if clash is not None:
        raise Clash(clash)
    if takes(machine, run):
        return "sure", derive(seen, k, run)
    more = (*seen, run)
    clash = first_clash(more, barred, k)
    if clash is not None:
        return "never", derive(more, k, clash)
    return "open", (machine_apart(seen, (*barred, run), k), machine_apart(more, barred, k))


def judge_sure(seen, k, run, paper):
    """Tell whether the paper is a derivation of the run from the seen runs."""
    return judge_derivation(seen, k, paper, run)


def judge_never_run(seen, barred, k, run, paper):
    """Tell whether the paper is a derivation of some barred run from the seen runs and this run."""
    return derives_barred((*seen, run), barred, k, paper)


def derives_barred(seen, barred, k, lines):
    """Tell whether the lines are a derivation of a barred run from the seen ones."""
    return len(lines) > 0 and lines[-1][0] in barred and judge_derivation(seen, k, lines, lines[-1][0])


def judge_open(seen, barred, k, run, paper):
    """Tell whether the paper is a pair of machines of which the second one takes the run and the first one does not."""
    first, second = paper
    return tells_apart(first, seen, (*barred, run), k) and tells_apart(second, (*seen, run), barred, k)
