"""The runs that a machine takes, in their order.

A count is a list that has for each state the number of the runs with so many
letters that lead from it to an end.
"""

from fromruns.machines import state_along


def count_runs(machine, letters):
    """Return the number of the runs with exactly that many letters that the machine takes."""
    counts = counts_up_to(machine, letters)
    return sum(counts[letters][:1])


def first_count(machine):
    """Return the count for no letters."""
    rows, ends = machine
    return [1 if state in ends else 0 for state in range(len(rows))]


def longer_count(machine, count):
    """Return the count for one letter more."""
    rows, _ = machine
    return [sum([count[there] for _, there in row]) for row in rows]


def counts_up_to(machine, letters):
    """Return the list of the counts for 0 letters, 1 letter, and so on."""
    counts = [first_count(machine)]
    for _ in range(letters):
        counts.append(longer_count(machine, counts[-1]))
    return counts


def each_run(machine, letters):
    """Yield, in order, the runs with at most that many letters that the machine takes."""
    rows, _ = machine
    counts = counts_up_to(machine, letters)
    for many in range(letters + 1):
        yield from runs_with(rows, counts, many)


def runs_with(rows, counts, many):
    """Return the list, in order, of the runs with that many letters."""
    found = [("", 0)] if any(counts[many][:1]) else []
    for left in reversed(range(many)):
        # Only beginnings of runs that are told later are kept, so there are never more of them than of these runs.
        found = [
            (run + letter, there)
            for run, state in found
            for letter, there in rows[state]
            if counts[left][there]
        ]
    return [run for run, _ in found]


def short_runs(machine, letters, *, first=""):
    """Return the tuple of the runs that each_run yields and that begin with the first one."""
    return tuple([run for run in each_run(machine, letters) if run.startswith(first)])


def nth_run(machine, number):
    """Return the run with the number, or None if no run has it."""
    rows, _ = machine
    counts = [first_count(machine)]
    left = number
    # A count of zeros tells that no run from any state has so many letters or more.
    while any(counts[-1]) and counts[-1][0] <= left:
        left -= counts[-1][0]
        counts.append(longer_count(machine, counts[-1]))
    if not any(counts[-1]):
        return None
    return run_at(rows, counts, left)


def run_at(rows, counts, number):
    """Return the run that has the number among those with the letters of the last count."""
    letters = []
    state = 0
    left = number
    for rest in reversed(range(len(counts) - 1)):
        for letter, there in rows[state]:
            if left < counts[rest][there]:
                letters.append(letter)
                state = there
                break
            left -= counts[rest][there]
    return "".join(letters)


def number_of(machine, run):
    """Return how many runs that the machine takes come before the run."""
    rows, _ = machine
    if not rows:
        return 0
    counts = counts_up_to(machine, len(run))
    before = sum([count[0] for count in counts[:-1]])
    state = 0
    for at, letter in enumerate(run):
        rest = counts[len(run) - at - 1]
        before += sum([rest[there] for told, there in rows[state] if told < letter])
        state = state_along(rows[state], letter)
        if state is None:
            return before
    return before


def is_finite(machine):
    """Tell whether the machine takes finitely many runs."""
    rows, _ = machine
    places = [0] if rows else []
    # Who goes on for as many letters as there are states has come to a state twice, and can do so again and again.
    for _ in range(len(rows)):
        places = sorted({arrow[1] for state in places for arrow in rows[state]})
    return not places
