"""Slow and plain definitions that the tests compare the program with.

Nothing here uses the package: runs, webs and machines are taken by their words
in DOC.md.
"""

import random
import time
from contextlib import contextmanager
from itertools import product


def all_runs(letters, most):
    """All runs of these letters with at most that many letters, in order."""
    found = []
    for many in range(most + 1):
        found.extend("".join(run) for run in product(letters, repeat=many))
    return found


def ordered(runs):
    return sorted(set(runs), key=lambda run: (len(run), run))


def web_takes(web, run):
    size, arrows, starts, ends = web
    states = set(starts)
    for letter in run:
        states = {there for state, told, there in arrows if told == letter and state in states}
    return bool(states & set(ends))


def goes_to(machine, state, run):
    for letter in run:
        state = dict(machine[0][state]).get(letter)
        if state is None:
            return None
    return state


def has(machine, run):
    return bool(machine[0]) and goes_to(machine, 0, run) in machine[1]


def language(machine, letters, most):
    """The list of the runs of these letters, at most that long, that the machine takes, in order."""
    return [run for run in all_runs(letters, most) if has(machine, run)]


def complaint(machine):
    """What point [6] says against the machine, or None."""
    if type(machine) is not tuple or len(machine) != 2:
        return "no pair"
    rows, ends = machine
    if type(rows) is not tuple or type(ends) is not tuple:
        return "rows and ends are no tuples"
    many = len(rows)
    for row in rows:
        if type(row) is not tuple or list(row) != sorted(set(row)):
            return "a row is not in ascending order"
        if len({letter for letter, _ in row}) != len(row):
            return "a letter twice"
        for arrow in row:
            if type(arrow) is not tuple or type(arrow[0]) is not str or type(arrow[1]) is not int:
                return "an arrow is no pair of a letter and a state"
            if len(arrow[0]) != 1 or not "a" <= arrow[0] <= "z" or not 0 <= arrow[1] < many:
                return "an arrow with a wrong letter or state"
    if any(type(end) is not int or not 0 <= end < many for end in ends) or list(ends) != sorted(set(ends)):
        return "wrong ends"
    return wrong_numbers(rows) or dead_state(rows, ends) or twins(rows, ends)


def wrong_numbers(rows):
    if not rows:
        return None
    first = {0: ""}
    front = [0]
    while front:
        new = {}
        for state in front:
            for letter, there in rows[state]:
                run = first[state] + letter
                if there not in first and (there not in new or run < new[there]):
                    new[there] = run
        front = sorted(new, key=new.get)
        first.update(new)
    if len(first) != len(rows):
        return "a state is not led to"
    if sorted(first, key=lambda state: (len(first[state]), first[state])) != list(range(len(rows))):
        return "the states are not numbered in the order of their first runs"
    return None


def dead_state(rows, ends):
    good = set(ends)
    while True:
        more = {state for state, row in enumerate(rows) if any(there in good for _, there in row)} - good
        if not more:
            return None if len(good) == len(rows) else "a state leads to no end"
        good |= more


def twins(rows, ends):
    kinds = [state in ends for state in range(len(rows))]
    while True:
        keys = [(kinds[s], tuple((letter, kinds[there]) for letter, there in rows[s])) for s in range(len(rows))]
        names = {key: at for at, key in enumerate(sorted(set(keys), key=repr))}
        split = [names[key] for key in keys]
        if len(set(split)) == len(set(kinds)):
            return None if len(set(split)) == len(rows) else "two states have the same runs to ends"
        kinds = split


def pairs_sharing(machine, k, letters):
    """The pairs that share k letters, by going through all runs of k letters."""
    found = set()
    states = range(len(machine[0]))
    for run in product(letters, repeat=k):
        reached = {goes_to(machine, state, run) for state in states} - {None}
        found |= {(p, q) for p in reached for q in reached if p < q}
    return tuple(sorted(found))


def bad_pair(machine, p, q):
    rows, ends = machine
    if p in ends and q in ends:
        return True
    return any(dict(rows[q]).get(letter) == there for letter, there in rows[p])


def closed_by_corners(machine, k, letters):
    """Whether there is no corner of k with short parts whose three runs are taken and whose fourth is not."""
    many = len(machine[0])
    for v in map("".join, product(letters, repeat=k)):
        tails = []
        for u in all_runs(letters, max(0, many - 1)):
            if has_state(machine, u + v):
                tails.append({w for w in all_runs(letters, many) if has(machine, u + v + w)})
        for one in tails:
            for other in tails:
                if one & other and one != other:
                    return False
    return True


def has_state(machine, run):
    return bool(machine[0]) and goes_to(machine, 0, run) is not None


def random_web(seed, size=4, letters="ab", arrows=6, least=0):
    """A web with at least that many starts and ends, if it has states."""
    pick = random.Random(seed)
    if size == 0:
        return (0, (), (), ())
    some = tuple((pick.randrange(size), pick.choice(letters), pick.randrange(size)) for _ in range(arrows))
    starts = tuple(pick.randrange(size) for _ in range(pick.randint(least, 2)))
    ends = tuple(pick.randrange(size) for _ in range(pick.randint(least, 2)))
    return (size, some, starts, ends)


def ring(many, letter="a", ends=(0,)):
    """The machine of a ring of states with one letter; the ends have to leave it in the one form."""
    rows = tuple(((letter, (state + 1) % many),) for state in range(many))
    return rows, tuple(sorted(ends))


def line(many, letter="a"):
    """The machine of the one run of many letters."""
    return tuple(((letter, at + 1),) for at in range(many)) + ((),), (many,)


@contextmanager
def without_delay(test, seconds=20):
    """Fail if what stands below takes much longer than it should."""
    start = time.perf_counter()
    yield
    test.assertLess(time.perf_counter() - start, seconds)
