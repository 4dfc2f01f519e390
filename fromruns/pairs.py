"""Pairs of states: of two machines side by side, and of one machine."""

from fromruns.exploring import first_run


def side_by_side(first, second):
    """Return the steps of pairs of a state of the first machine and one of the second one.

    The number of a machine's states stands for being in none of them.
    """
    left = moves_of(first)
    right = moves_of(second)
    letters = sorted({letter for moves in left + right for letter in moves})

    def steps(pair):
        state, other = pair
        return [(letter, (left[state].get(letter, len(left) - 1), right[other].get(letter, len(right) - 1)))
                for letter in letters]

    return steps


def first_parting(first, state, second, other):
    """Return the first run that leads from exactly one of the two states to an end, or None."""

    def is_wanted(pair):
        return (pair[0] in first[1]) != (pair[1] in second[1])

    return first_run((state, other), side_by_side(first, second), is_wanted)


def moves_of(machine):
    """Return the list of the dicts of the arrows of the states, and of being in none of them."""
    rows, _ = machine
    return [dict(row) for row in rows] + [{}]


def pair_arrows(machine):
    """Return for each pair of different states (p, q), p less than q, the list of its arrows.

    A letter leads from it to the pair of the states that the letter leads to,
    if these are different.
    """
    moves = moves_of(machine)
    arrows = {}
    for low in range(len(machine[0])):
        for high in range(low + 1, len(machine[0])):
            arrows[(low, high)] = arrows_of_pair(moves[low], moves[high])
    return arrows


def arrows_of_pair(one, other):
    """Return the list of the letters of both states' moves with the pairs that they lead to."""
    found = []
    for letter, state in one.items():
        if letter in other and other[letter] != state:
            found.append((letter, (min(state, other[letter]), max(state, other[letter]))))
    return found


def most_shared(arrows):
    """Return for each pair the most letters that its states share, or None if there is no bound."""
    waits = {pair: 0 for pair in arrows}
    for row in arrows.values():
        for _, there in row:
            waits[there] += 1
    most = {pair: 0 for pair in arrows}
    free = [pair for pair in arrows if waits[pair] == 0]
    while free:
        pair = free.pop()
        for _, there in arrows[pair]:
            most[there] = max(most[there], most[pair] + 1)
            waits[there] -= 1
            if waits[there] == 0:
                free.append(there)
    # What still waits comes, along its arrows backwards, of pairs without end, so of some pair again and again.
    return {pair: None if waits[pair] else most[pair] for pair in arrows}
