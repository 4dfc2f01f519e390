"""Slow and plain definitions of closures, merges, derivations and splicings, by their words in DOC.md.

Nothing here uses the package.
"""

import random
from functools import lru_cache

from tests.reference import has, ordered


def lasts(run, k):
    """The last k letters, or None if there are fewer."""
    return run[len(run) - k:] if len(run) >= k else None


def closed_under(runs, k, most, unites):
    """Runs with at most that many letters, until beginnings that unites tells to go on alike do so."""
    found = set(runs)
    while True:
        behind = {}
        for run in found:
            for at in range(len(run) + 1):
                behind.setdefault(run[:at], set()).add(run[at:])
        more = set()
        for p, one in behind.items():
            for q, other in behind.items():
                if p != q and lasts(p, k) is not None and lasts(p, k) == lasts(q, k) and unites(one, other):
                    more |= {q + rest for rest in one if len(q + rest) <= most}
        if more <= found:
            return found
        found |= more


def closure(runs, k, most):
    """What corners whose runs have at most that many letters lead to."""
    return closed_under(runs, k, most, lambda one, other: bool(one & other))


def local_closure(runs, k, most):
    return closed_under(runs, k, most, lambda one, other: True)


def in_windows(runs, k, run):
    """Point [38], for one run."""
    if len(run) < k:
        return run in runs
    long = [told for told in runs if len(told) >= k]

    def parts(told):
        return {told[at:at + k + 1] for at in range(len(told) - k)}

    return (
        run[:k] in {told[:k] for told in long}
        and parts(run) <= set().union(*[parts(told) for told in long])
        and lasts(run, k) in {lasts(told, k) for told in long}
    )


def slow_lumps(runs, k):
    """A dict of the lump of each beginning, merged as long as something can be merged."""
    lump = {name: name for name in starts(runs)}
    while True:
        rules = [((("step", lump[name[:-1]], name[-1])), name) for name in lump if name]
        rules += [(("ends", lasts(run, k)), run) for run in runs if len(run) >= k]
        rules += [(("meets", lasts(name[:-1], k), name[-1], lump[name]), name[:-1]) for name in lump if len(name) > k]
        firsts = {}
        for key, name in rules:
            other = firsts.setdefault(key, name)
            if lump[other] != lump[name]:
                old, new = lump[name], lump[other]
                lump = {told: new if where == old else where for told, where in lump.items()}
                break
        else:
            return lump


@lru_cache(maxsize=None)
def slow_web(runs, k):
    """A web of the closure."""
    lump = slow_lumps(runs, k)
    number = {name: at for at, name in enumerate(lump)}
    arrows = tuple((number[lump[name[:-1]]], name[-1], number[lump[name]]) for name in lump if name)
    return (len(number), arrows, (number[lump[""]],) if lump else (), tuple(number[lump[run]] for run in runs))


def starts(runs):
    return ordered([run[:at] for run in runs for at in range(len(run) + 1)])


def may_merge(runs, k, lump, merge):
    """Point [23], for one merge; lump is a dict."""
    p, q, f, g, reason = merge
    if any(name not in lump for name in merge[:4]) or lump[p] == lump[q]:
        return False
    if reason == "step":
        return lump[f] == lump[g] and any(p == f + x and q == g + x for x in "abcdefghijklmnopqrstuvwxyz")
    if lasts(p, k) is None or lasts(p, k) != lasts(q, k) or lump[f] != lump[p] or lump[g] != lump[q]:
        return False
    if reason == "ends":
        return f in runs and g in runs
    if reason == "meets":
        return any(f + x in lump and g + x in lump and lump[f + x] == lump[g + x] for x in "abcdef")
    return False


def all_merges(runs, k, lump):
    """All merges that are allowed."""
    names = list(lump)
    found = []
    for p in names:
        for q in names:
            if lump[p] != lump[q]:
                found += [
                    (p, q, f, g, reason)
                    for f in names
                    for g in names
                    for reason in ("step", "ends", "meets")
                    if may_merge(runs, k, lump, (p, q, f, g, reason))
                ]
    return found


def put_together(lump, merge):
    old, new = lump[merge[0]], lump[merge[1]]
    return {name: new if where == old else where for name, where in lump.items()}


def some_log(runs, k, seed):
    """A whole log of merges in any order."""
    pick = random.Random(seed)
    lump = {name: name for name in starts(runs)}
    log = []
    while True:
        merges = all_merges(runs, k, lump)
        if not merges:
            return tuple(log)
        log.append(pick.choice(merges))
        lump = put_together(lump, log[-1])


def firsts_of(lump):
    """For all beginnings in order, the first one in the same lump."""
    names = ordered(lump)
    return tuple(next(other for other in names if lump[other] == lump[name]) for name in names)


def derives(runs, k, lines, run):
    """Points [25], for all lines."""
    for at, (made, reason) in enumerate(lines):
        if reason == ():
            if made not in runs:
                return False
            continue
        if len(reason) != 5 or any(number not in range(at) for number in reason[:3]):
            return False
        one, other, long = (lines[number][0] for number in reason[:3])
        m, n = reason[3:]
        if m not in range(k, len(one) + 1) or m > len(long) or n not in range(k, len(other) + 1):
            return False
        if lasts(one[:m], k) != lasts(other[:n], k) or one[m:] != other[n:] or long[:m] != one[:m]:
            return False
        if made != other[:n] + long[m:]:
            return False
    return lines != () and lines[-1][0] == run


def splices(runs, k, lines, run):
    """Point [39], for all lines."""
    for at, (made, reason) in enumerate(lines):
        if reason == ():
            if made not in runs:
                return False
            continue
        if len(reason) != 4 or any(number not in range(at) for number in reason[:2]):
            return False
        one, other = (lines[number][0] for number in reason[:2])
        m, n = reason[2:]
        if m not in range(k, len(one) + 1) or n not in range(k, len(other) + 1):
            return False
        if lasts(one[:m], k) != lasts(other[:n], k) or made != one[:m] + other[n:]:
            return False
    return lines != () and lines[-1][0] == run


@lru_cache(maxsize=None)
def is_closed_slowly(machine, k):
    """Point [16]: no bad pair shares k letters."""
    rows, ends = machine
    pairs = {(p, q) for p in range(len(rows)) for q in range(len(rows)) if p != q}
    for _ in range(k):
        pairs = {
            (dict(rows[p])[x], dict(rows[q])[x]) for p, q in pairs for x in dict(rows[p]).keys() & dict(rows[q]).keys()
        }
        pairs = {(p, q) for p, q in pairs if p != q}
    return not any(p in ends and q in ends or set(rows[p]) & set(rows[q]) for p, q in pairs)


def apart(machine, k, seen, barred):
    """Whether the machine is k-closed, takes all seen runs and no barred one."""
    return (
        is_closed_slowly(machine, k)
        and all(has(machine, run) for run in seen)
        and not any(has(machine, run) for run in barred)
    )


def some_runs(seed, many=5, most=5, letters="ab"):
    """Some runs in any order, perhaps with duplicates."""
    pick = random.Random(seed)
    return tuple(
        "".join(pick.choice(letters) for _ in range(pick.randint(0, most))) for _ in range(pick.randint(0, many))
    )


def walk(machine, seed, letters):
    """A run that the machine takes: some letters, then the first way to an end."""
    pick = random.Random(seed)
    run, state = "", 0
    for _ in range(letters):
        if machine[0][state]:
            letter, state = pick.choice(machine[0][state])
            run += letter
    return run + way_out(machine, state)


def way_out(machine, state):
    """The first run from the state to an end."""
    front = [("", state)]
    seen = {state}
    while True:
        new = []
        for run, place in front:
            if place in machine[1]:
                return run
            for letter, there in machine[0][place]:
                if there not in seen:
                    seen.add(there)
                    new.append((run + letter, there))
        front = new
