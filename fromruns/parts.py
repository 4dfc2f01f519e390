"""The parts of the runs that a machine takes."""

from fromruns.machines import state_along, state_behind
from fromruns.reducing import EMPTY, machine_from


def behind(machine, run):
    """Return the machine of all runs w such that the machine takes the run followed by w."""
    state = state_behind(machine, run)
    if state is None:
        return EMPTY
    return machine_between(machine[0], state, machine[1])


def ahead(machine, run):
    """Return the machine of all runs w such that the machine takes w followed by the run."""
    rows, ends = machine
    for letter in reversed(run):
        ends = [state for state, row in enumerate(rows) if state_along(row, letter) in ends]
    return machine_between(rows, 0, ends)


def all_beginnings(machine):
    """Return the machine of all beginnings of the runs that the machine takes."""
    rows, _ = machine
    return machine_between(rows, 0, list(range(len(rows))))


def machine_between(rows, start, ends):
    """Return the machine of the runs that lead along the arrows of the rows from the start to an end."""
    if not rows:
        return EMPTY

    def steps(state):
        return rows[state]

    def is_end(state):
        return state in ends

    return machine_from(start, steps, is_end)
