"""The simpler kind: what ends with the same k letters always goes on alike."""

from fromruns.classes import shared_run, shares
from fromruns.learning import leads
from fromruns.machines import run_between, runs_machine, state_behind, tail, takes
from fromruns.pairs import first_parting, most_shared, pair_arrows
from fromruns.reducing import EMPTY, machine_from
from fromruns.words import in_order, last_letters


def windows(runs, k):
    """Return the tuples of the first k letters, of all k + 1 letters side by side, and of the last k letters."""
    long = [run for run in runs if len(run) >= k]
    middles = [run[at:at + k + 1] for run in long for at in range(len(run) - k)]
    return (
        in_order([run[:k] for run in long]),
        in_order(middles),
        in_order([last_letters(run, k) for run in long]),
    )


def fits_windows(runs, k, run):
    """Tell whether the run is in the local closure of the runs."""
    if len(run) < k:
        return run in runs
    firsts, middles, lasts = windows(runs, k)
    if run[:k] not in firsts or last_letters(run, k) not in lasts:
        return False
    return all([run[at:at + k + 1] in middles for at in range(len(run) - k)])


def local_close(machine, k):
    """Return the machine of the local closure of the machine's language."""
    rows, ends = machine
    if not rows:
        return EMPTY
    moves = {}
    marks = {}
    for state, v in leads(machine, k):
        row = moves.setdefault(v, {})
        for letter, _ in rows[state]:
            row[letter] = last_letters(v + letter, k)
        if state in ends:
            marks[v] = True

    def steps(v):
        return sorted(moves[v].items())

    def is_end(v):
        return v in marks

    return machine_from("", steps, is_end)


def local_learn(runs, k):
    """Return the machine of the local closure of the set of the runs."""
    return local_close(runs_machine(runs), k)


def is_local(machine, k):
    """Tell whether the machine is k-local."""
    most = most_shared(pair_arrows(machine))
    return not any([shares(most, pair, k) for pair in most])


def least_local(machine):
    """Return the least k for which the machine is k-local, or None."""
    limits = list(most_shared(pair_arrows(machine)).values())
    if any([limit is None for limit in limits]):
        return None
    return max([limit + 1 for limit in limits], default=0)


def local_gap(machine, k):
    """Return a gap of the machine, or None if it is k-local."""
    arrows = pair_arrows(machine)
    most = most_shared(arrows)
    shared = [pair for pair in most if shares(most, pair, k)]
    if not shared:
        return None
    v, origins = shared_run(arrows, most, shared[0], k)
    u = run_between(machine, 0, origins[:1])
    z = run_between(machine, 0, origins[1:])
    x = first_parting(machine, shared[0][0], machine, shared[0][1])
    if takes(machine, u + v + x):
        u, z = z, u
    return (u, z, v, tail(machine, state_behind(machine, u + v)), x)


def judge_gap(machine, k, gap):
    """Tell whether the tuple of five runs is a gap of the machine."""
    if len(gap) != 5 or len(gap[2]) != k:
        return False
    u, z, v, w, x = gap
    return takes(machine, u + v + w) and takes(machine, z + v + x) and not takes(machine, u + v + x)


def splice(runs, k, run):
    """Return a splicing that splices the run, or None if the run is not in the local closure."""
    if run in runs:
        return ((run, ()),)
    if not fits_windows(runs, k, run):
        return None
    ordered = in_order(runs)
    start = [other for other in ordered if other.startswith(run[:k])][0]
    lines = [(start, ())]
    numbers = {start: 0}
    while lines[-1][0] != run:
        last = lines[-1][0]
        m = alike(last, run)
        other, n = place_behind(ordered, k, run, m)
        if other not in numbers:
            numbers[other] = len(lines)
            lines.append((other, ()))
        made = run[:m] + other[n:]
        lines.append((made, (numbers[last], numbers[other], m, n)))
        numbers[made] = len(lines) - 1
    return tuple(lines)


def alike(one, other):
    """Return the number of the first letters in which the two runs are alike."""
    for at, (letter, beside) in enumerate(zip(one, other)):
        if letter != beside:
            return at
    return min(len(one), len(other))


def place_behind(runs, k, run, m):
    """Return one of the runs and a number n that fit what stands around the first m letters of the run.

    The last k of these letters are the last k of the first n letters of the one
    that is returned, and the same letter follows, or the end of both.
    """
    if m < len(run):
        other = [told for told in runs if run[m - k:m + 1] in told][0]
        return other, other.find(run[m - k:m + 1]) + k
    other = [told for told in runs if told.endswith(last_letters(run, k))][0]
    return other, len(other)


def judge_splices(runs, k, lines, run):
    """Tell whether the lines are a splicing that splices the run."""
    if not lines or lines[-1][0] != run:
        return False
    return all([is_spliced(runs, k, lines, at) for at in range(len(lines))])


def is_spliced(runs, k, lines, at):
    """Tell whether the line with the number is one of the runs or made of earlier lines as its reason tells."""
    made, reason = lines[at]
    if not reason:
        return made in runs
    if len(reason) != 4 or not all([0 <= number < at for number in reason[:2]]):
        return False
    i, j, m, n = reason
    one, other = lines[i][0], lines[j][0]
    if not (k <= m <= len(one) and k <= n <= len(other)):
        return False
    return last_letters(one[:m], k) == last_letters(other[:n], k) and made == one[:m] + other[n:]
