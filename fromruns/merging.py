"""Merging the beginnings of runs into lumps, step by step, and judging such steps."""

from fromruns.errors import BadMerge
from fromruns.lumping import grown, settled
from fromruns.machines import machine_of
from fromruns.reducing import EMPTY
from fromruns.words import beginnings, in_order, last_letters


def merge_log(runs, k):
    """Return a whole log of the runs."""
    rows, ends, leaders, names = grown(in_order(runs), k)
    merges = settled(rows, ends, leaders).log
    return tuple([(names[p], names[q], names[f], names[g], reason) for p, q, f, g, reason in merges])


def lumps(runs, k, log):
    """Return, for all beginnings in order, the first beginning in the same lump; raise BadMerge if need be."""
    return tuple(firsts_behind(runs, k, log).values())


def firsts_behind(runs, k, log):
    """Return the dict of the first beginning in the lump of each beginning, both in order; see lumps."""
    names = beginnings(runs)
    firsts = {name: name for name in names}
    places = {name: at for at, name in enumerate(names)}
    for at, merge in enumerate(log):
        if not is_allowed(runs, k, firsts, merge):
            raise BadMerge(at)
        one, other = firsts[merge[0]], firsts[merge[1]]
        kept, taken = (one, other) if places[one] < places[other] else (other, one)
        firsts = {name: kept if first == taken else first for name, first in firsts.items()}
    return firsts


def is_allowed(runs, k, firsts, merge):
    """Tell whether the merge is allowed at the moment that the first beginnings of the lumps tell."""
    if len(merge) != 5 or not all([name in firsts for name in merge[:4]]):
        return False
    p, q, f, g, reason = merge
    if firsts[p] == firsts[q]:
        return False
    if reason == "step":
        return firsts[f] == firsts[g] and p[-1:] == q[-1:] and is_step(f, p) and is_step(g, q)
    if not share_last(p, q, k) or firsts[f] != firsts[p] or firsts[g] != firsts[q]:
        return False
    if reason == "ends":
        return f in runs and g in runs
    return reason == "meets" and meet_behind(firsts, f, g)


def is_step(run, longer):
    """Tell whether the longer run is the run and one more letter."""
    return longer != "" and longer[:-1] == run


def share_last(p, q, k):
    """Tell whether both runs have at least k letters and the same last k letters."""
    return len(p) >= k and len(q) >= k and last_letters(p, k) == last_letters(q, k)


def meet_behind(firsts, f, g):
    """Tell whether f and g become, with the same letter, beginnings that are in the same lump."""
    letters = [name[-1] for name in firsts if is_step(f, name)]
    return any([firsts[f + letter] == firsts.get(g + letter) for letter in letters])


def is_whole(runs, k, log):
    """Tell whether the log is a whole log of the runs."""
    try:
        firsts = firsts_behind(runs, k, log)
    except BadMerge:
        return False
    steps = [(name[:-1], name[-1], name) for name in firsts if name]
    if differ([((firsts[f], letter), firsts[name]) for f, letter, name in steps]):
        return False
    # All beginnings in a lump that has one of at least k letters have the same last k letters.
    if differ([((last_letters(f, k), letter, firsts[name]), firsts[f]) for f, letter, name in steps if len(f) >= k]):
        return False
    return not differ([(last_letters(run, k), firsts[run]) for run in runs if len(run) >= k])


def differ(pairs):
    """Tell whether two of the pairs have the same first part and different second ones."""
    found = {}
    return any([found.setdefault(key, told) != told for key, told in pairs])


def lump_machine(runs, k, log):
    """Return the machine that takes what the lumps behind the whole log take."""
    firsts = firsts_behind(runs, k, log)
    if not firsts:
        return EMPTY
    numbers = {name: at for at, name in enumerate(firsts)}
    arrows = [(numbers[firsts[name[:-1]]], name[-1], numbers[firsts[name]]) for name in firsts if name]
    ends = [numbers[firsts[run]] for run in runs]
    return machine_of((len(numbers), arrows, (0,), ends))
