"""Places of a web that take all that other ones take.

The moves of a place are a dict of the lists of the places that a letter leads
to. What is put together of many places need not keep those that are covered by
another one. Without them, far fewer sets of places are met.
"""


def covers_of(moves, ends):
    """Return for each place the dict of the places that cover it.

    Such a place goes along with it wherever it goes. Of two places that cover
    each other, only the one that stands earlier in the moves is told as a cover.
    """
    numbers = {place: at for at, place in enumerate(moves)}
    pairs = pairs_going_along(moves, ends)
    covers = {place: {} for place in moves}
    for place, other in pairs:
        if (other, place) not in pairs or numbers[other] < numbers[place]:
            covers[place][other] = True
    return covers


def pairs_going_along(moves, ends):
    """Return the dict of the pairs of different places of which the second one goes along with the first one."""
    pairs = {}
    for place in moves:
        for other in moves:
            if place != other and (other in ends or place not in ends):
                pairs[(place, other)] = True
    wrong = lagging(moves, pairs)
    while wrong:
        for pair in wrong:
            del pairs[pair]
        wrong = lagging(moves, pairs)
    return pairs


def lagging(moves, pairs):
    """Return the list of the pairs of which the second place does not go along, as far as the pairs tell."""
    return [pair for pair in pairs if not goes_along(moves, pairs, pair)]


def goes_along(moves, pairs, pair):
    """Tell whether each arrow of the first place has one of the second place beside it, as far as the pairs tell."""
    first, second = moves[pair[0]], moves[pair[1]]
    for letter, places in first.items():
        for place in places:
            if not any([place == other or (place, other) in pairs for other in second.get(letter, ())]):
                return False
    return True


def uncovered(places, covers):
    """Return the list of those of the places that no other one of them covers."""
    return [place for place in places if not any([other in covers[place] for other in places])]
