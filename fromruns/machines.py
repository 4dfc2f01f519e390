"""Machines in the one form, of webs and of tuples of runs."""

from fromruns.exploring import first_run
from fromruns.reducing import machine_from


def machine_of(web):
    """Return the machine with the language of the web."""
    size, arrows, starts, ends = web
    moves = listed_moves(size, arrows)
    letters = sorted({arrow[1] for arrow in arrows})

    def steps(states):
        return [(letter, states_behind(moves, states, letter)) for letter in letters]

    def is_end(states):
        return any([state in ends for state in states])

    return machine_from(tuple(sorted(set(starts))), steps, is_end)


def listed_moves(size, arrows):
    """Return for each state the dict of the lists of the states that a letter leads to."""
    moves = [{} for _ in range(size)]
    for state, letter, there in arrows:
        moves[state].setdefault(letter, []).append(there)
    return moves


def states_behind(moves, states, letter):
    """Return the ascending tuple of the states that the letter leads to from the states; see listed_moves."""
    return tuple(sorted({there for state in states for there in moves[state].get(letter, ())}))


def runs_machine(runs):
    """Return the machine that takes exactly the runs."""
    rows, ends = tree_of(runs)

    def steps(state):
        return sorted(rows[state].items())

    def is_end(state):
        return state in ends

    return machine_from(0, steps, is_end)


def tree_of(runs):
    """Return a tree with a state for each beginning of the runs.

    It is a list of the dicts of the states that a letter leads to, and a dict
    of the states behind the runs themselves.
    """
    rows = [{}]
    ends = {}
    for run in runs:
        state = 0
        for letter in run:
            if letter not in rows[state]:
                rows[state][letter] = len(rows)
                rows.append({})
            state = rows[state][letter]
        ends[state] = True
    return rows, ends


def state_behind(machine, run):
    """Return the state that the run leads to from state 0, or None."""
    return state_from(machine, 0, run) if machine[0] else None


def state_from(machine, state, run):
    """Return the state that the run leads to from the state, or None."""
    place = state
    for letter in run:
        place = state_along(machine[0][place], letter)
        if place is None:
            return None
    return place


def state_along(row, letter):
    """Return the state that the arrow with the letter leads to, or None."""
    for told, there in row:
        if told == letter:
            return there
    return None


def takes(machine, run):
    """Tell whether the machine takes the run."""
    return state_behind(machine, run) in machine[1]


def tail(machine, state):
    """Return the first run that leads from the state to an end."""
    return run_between(machine, state, machine[1])


def run_between(machine, state, places):
    """Return the first run that leads from the state to one of the places, or None."""
    rows, _ = machine

    def steps(place):
        return rows[place]

    def is_wanted(place):
        return place in places

    return first_run(state, steps, is_wanted)


def letters_of(machine):
    """Return the string of the letters of the arrows, ascending, each once."""
    rows, _ = machine
    return "".join(sorted({letter for row in rows for letter, _ in row}))


def arrows_of(machine):
    """Return the list of the triples (state, letter, state) of the arrows, ascending."""
    rows, _ = machine
    return [(state, letter, there) for state, row in enumerate(rows) for letter, there in row]
