"""Codes: a run in the place of each letter."""

from heapq import heappop, heappush

from fromruns.covering import covers_of, uncovered
from fromruns.machines import arrows_of, states_behind, state_from
from fromruns.parts import machine_between
from fromruns.reducing import EMPTY, machine_from
from fromruns.words import in_order


def coded_run(code, run):
    """Return the coded run of the run, or None if a letter of it has no pair."""
    words = dict(code)
    if not all([letter in words for letter in run]):
        return None
    return "".join([words[letter] for letter in run])


def decoded_run(code, run):
    """Return the first run whose coded run is the run, or None."""
    # For each place the first run whose coded run stands from there to the end.
    firsts = {len(run): ""}
    for at in reversed(range(len(run))):
        starts = [(letter, at + len(word)) for letter, word in code if run.startswith(word, at)]
        found = [letter + firsts[behind] for letter, behind in starts if behind in firsts]
        if found:
            firsts[at] = in_order(found)[0]
    return firsts.get(0)


def decoded(machine, code):
    """Return the machine that takes exactly the runs whose coded run the machine takes."""
    rows, ends = machine
    moves = []
    for state in range(len(rows)):
        arrows = [(letter, state_from(machine, state, word)) for letter, word in code]
        moves.append([(letter, there) for letter, there in arrows if there is not None])
    return machine_between(moves, 0, ends)


def coded(machine, code):
    """Return the machine that takes exactly the coded runs of the runs that the machine takes."""
    if not machine[0]:
        return EMPTY
    moves = coded_moves(machine, dict(code))
    ends = {(state, ""): True for state in machine[1]}
    covers = covers_of(moves, ends)
    letters = sorted({letter for row in moves.values() for letter in row})

    def steps(places):
        return [(letter, tuple(uncovered(states_behind(moves, places, letter), covers))) for letter in letters]

    def is_end(places):
        return any([place in ends for place in places])

    return machine_from(((0, ""),), steps, is_end)


def coded_moves(machine, words):
    """Return the moves of the coded machine's web; see fromruns/covering.py.

    A place is a pair of a state of the machine and what is still to be read
    of a code's run before this state is reached.
    """
    moves = {(state, ""): {} for state in range(len(machine[0]))}
    for state, letter, there in arrows_of(machine):
        place = (state, "")
        word = words.get(letter, "")
        for at in range(len(word)):
            behind = (there, word[at + 1:])
            # An arrow may stand there already, of another code's run that ends alike.
            row = moves.setdefault(place, {}).setdefault(word[at], [])
            if behind not in row:
                row.append(behind)
            place = behind
    return moves


def twice(code):
    """Return the first run that is the coded run of two different runs, or None."""
    # Of two runs one is coded ahead of the other one. What is told is the coded run of the one that is ahead, with
    # what the other one lacks; the letters they begin with alike may be left out, so they begin with different ones.
    queue = []
    for letter, word in code:
        for other, more in code:
            if letter != other and more.startswith(word):
                heappush(queue, (len(more), more, more[len(word):]))
    done = {}
    while queue:
        _, told, lack = heappop(queue)
        if lack == "":
            return told
        if lack in done:
            continue
        done[lack] = True
        for _, word in code:
            if lack.startswith(word):
                heappush(queue, (len(told), told, lack[len(word):]))
            elif word.startswith(lack):
                more = told + word[len(lack):]
                heappush(queue, (len(more), more, word[len(lack):]))
    return None
