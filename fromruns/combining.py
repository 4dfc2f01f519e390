"""Machines made of machines, and first runs apart."""

from fromruns.exploring import first_run
from fromruns.machines import arrows_of, letters_of, listed_moves, machine_of, states_behind
from fromruns.pairs import first_parting, moves_of, side_by_side
from fromruns.reducing import EMPTY, EMPTY_RUN, machine_from


def meet(first, second):
    """Return the machine that takes the runs that both machines take."""

    def is_end(pair):
        return pair[0] in first[1] and pair[1] in second[1]

    return machine_from((0, 0), side_by_side(first, second), is_end)


def either(first, second):
    """Return the machine that takes the runs that at least one of the machines takes."""

    def is_end(pair):
        return pair[0] in first[1] or pair[1] in second[1]

    return machine_from((0, 0), side_by_side(first, second), is_end)


def without(first, second):
    """Return the machine that takes the runs that the first machine takes and the second one does not."""

    def is_end(pair):
        return pair[0] in first[1] and pair[1] not in second[1]

    return machine_from((0, 0), side_by_side(first, second), is_end)


def followed(first, second):
    """Return the machine of all runs made of a run of the first machine followed by one of the second."""
    if not first[0] or not second[0]:
        return EMPTY
    left = moves_of(first)
    right = listed_moves(len(second[0]), arrows_of(second))
    letters = sorted({letter for moves in left + right for letter in moves})

    def steps(place):
        state, others = place
        return [(letter, entered(first, left[state].get(letter, len(left) - 1), states_behind(right, others, letter)))
                for letter in letters]

    def is_end(place):
        return holds_end(second, place[1])

    return machine_from(entered(first, 0, ()), steps, is_end)


def entered(first, state, others):
    """Return the pair of both, the start of the second machine put among the others at an end of the first one."""
    if state in first[1]:
        return state, with_start(others)
    return state, others


def with_start(states):
    """Return the ascending tuple of the states and state 0."""
    return states if 0 in states else (0, *states)


def holds_end(machine, states):
    """Tell whether one of the states is an end of the machine."""
    return any([state in machine[1] for state in states])


def many(machine):
    """Return the machine of all runs made of any number of runs of the machine."""
    if not machine[0]:
        return EMPTY_RUN
    moves = listed_moves(len(machine[0]), arrows_of(machine))
    letters = letters_of(machine)

    def begun(states):
        return with_start(states) if holds_end(machine, states) else states

    def steps(states):
        return [(letter, begun(states_behind(moves, states, letter))) for letter in letters]

    def is_end(states):
        return holds_end(machine, states)

    return either(EMPTY_RUN, machine_from((0,), steps, is_end))


def reversed_machine(machine):
    """Return the machine of the runs of the machine, read from the last letter to the first one."""
    rows, ends = machine
    if not rows:
        return EMPTY
    arrows = [(there, letter, state) for state, letter, there in arrows_of(machine)]
    return machine_of((len(rows), arrows, ends, (0,)))


def outside(first, second):
    """Return the first run that the first machine takes and the second one does not, or None."""

    def is_wanted(pair):
        return pair[0] in first[1] and pair[1] not in second[1]

    return first_run((0, 0), side_by_side(first, second), is_wanted)


def parting(first, second):
    """Return the first run that exactly one of the two machines takes, or None."""
    return first_parting(first, 0, second, 0)
