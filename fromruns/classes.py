"""Which machines are k-closed, with faults and never papers."""

from fromruns.machines import run_between, tail, takes
from fromruns.pairs import first_parting, most_shared, pair_arrows


def shared_pairs(machine, k):
    """Return the tuple of the pairs of states that share k letters, ascending."""
    most = most_shared(pair_arrows(machine))
    return tuple([pair for pair in most if shares(most, pair, k)])


def shares(most, pair, k):
    """Tell whether the states of the pair share k letters; most is told in fromruns/pairs.py."""
    return most[pair] is None or most[pair] >= k


def is_bad(machine, p, q):
    """Tell whether the different states p and q are a bad pair."""
    rows, ends = machine
    if p in ends and q in ends:
        return True
    return any([arrow in rows[q] for arrow in rows[p]])


def is_closed(machine, k):
    """Tell whether the machine is k-closed."""
    return first_bad(machine, most_shared(pair_arrows(machine)), k) is None


def first_bad(machine, most, k):
    """Return the first bad pair that shares k letters, or None."""
    for pair in most:
        if shares(most, pair, k) and is_bad(machine, *pair):
            return pair
    return None


def fault(machine, k):
    """Return a fault of the machine, or None if it is k-closed."""
    arrows = pair_arrows(machine)
    most = most_shared(arrows)
    bad = first_bad(machine, most, k)
    if bad is None:
        return None
    v, origins = shared_run(arrows, most, bad, k)
    u = run_between(machine, 0, origins[:1])
    z = run_between(machine, 0, origins[1:])
    w = common_run(machine, *bad)
    x = first_parting(machine, bad[0], machine, bad[1])
    # The run x leads to an end from only one state of the bad pair; u v has to be what leads to this one.
    return (u, z, v, w, x) if takes(machine, u + v + x) else (z, u, v, w, x)


def shared_run(arrows, most, pair, k):
    """Return a run of k letters that the pair shares, and the pair from whose states it leads there."""
    sources = {place: [] for place in arrows}
    for place, row in arrows.items():
        for letter, there in row:
            sources[there].append((letter, place))
    letters = []
    place = pair
    for left in reversed(range(k)):
        letter, place = [source for source in sources[place] if shares(most, source[1], left)][0]
        letters.append(letter)
    return "".join(reversed(letters)), place


def common_run(machine, p, q):
    """Return a run that leads to an end from both states of a bad pair."""
    rows, ends = machine
    if p in ends and q in ends:
        return ""
    letter, there = [arrow for arrow in rows[p] if arrow in rows[q]][0]
    return letter + tail(machine, there)


def least_closed(machine):
    """Return the least k for which the machine is k-closed, or None."""
    most = most_shared(pair_arrows(machine))
    limits = [most[pair] for pair in most if is_bad(machine, *pair)]
    if any([limit is None for limit in limits]):
        return None
    return max([limit + 1 for limit in limits], default=0)


def never_paper(machine):
    """Return a never paper of the machine, or None if there is none."""
    most = most_shared(pair_arrows(machine))
    paper = tuple([pair for pair in most if most[pair] is None])
    return paper if any([is_bad(machine, *pair) for pair in paper]) else None


def judge_never(machine, paper):
    """Tell whether the paper is a never paper of the machine."""
    if not all([0 <= p < q < len(machine[0]) for p, q in paper]):
        return False
    if not all([pair < later for pair, later in zip(paper, paper[1:])]):
        return False
    if not any([is_bad(machine, *pair) for pair in paper]):
        return False
    arrows = pair_arrows(machine)
    reached = {there: True for pair in paper for _, there in arrows[pair]}
    return all([pair in reached for pair in paper])
