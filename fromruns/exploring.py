"""Going from thing to thing along letters, in the order of the first runs.

A thing is anything that can be a key of a dict. Its steps are a list of pairs
of a letter and the thing that the letter leads to, ascending by letter, at most
one for each letter.
"""


def reached(start, steps):
    """Return the list of all things that are reached, in the order of their first runs, and the list of their arrows.

    An arrow is a pair of a letter and the place in the list of the thing that the letter leads to.
    """
    numbers = {start: 0}
    found = [start]
    rows = []
    while len(rows) < len(found):
        row = []
        arrows = steps(found[len(rows)])
        for letter, thing in arrows:
            if thing not in numbers:
                numbers[thing] = len(found)
                found.append(thing)
            row.append((letter, numbers[thing]))
        rows.append(row)
    return found, rows


def explored(start, steps, is_end):
    """Number all things that are reached, in the order of their first runs.

    Return the list of the arrows of each number, and the list that tells for
    each number whether it is an end.
    """
    found, rows = reached(start, steps)
    return rows, [is_end(thing) for thing in found]


def first_run(start, steps, is_wanted):
    """Return the first run that leads from the start to a wanted thing, or None."""
    origins = {start: None}
    found = [start]
    done = 0
    while done < len(found):
        thing = found[done]
        if is_wanted(thing):
            return run_back(thing, origins)
        for letter, behind in steps(thing):
            if behind not in origins:
                origins[behind] = (letter, thing)
                found.append(behind)
        done += 1
    return None


def run_back(thing, origins):
    """Return the run that was followed to the thing."""
    letters = []
    origin = origins[thing]
    while origin is not None:
        letter, before = origin
        letters.append(letter)
        origin = origins[before]
    return "".join(letters[::-1])
