"""Putting states into lumps until the lumps take what is closed.

The states are numbered from 0, where all runs begin. Each has a leader: what
are the last k letters of all runs that lead to it, the whole run if it is
shorter. Different states with the same leader therefore are led to by runs of
at least k letters, and all states of a lump have the same leader.
"""

from fromruns.machines import tree_of
from fromruns.reducing import machine_from
from fromruns.words import last_letters


class Lumps:
    """States in lumps, with the merges that put them there.

    A merge is a tuple (p, q, f, g, reason) as in the document's point [23],
    with states in the place of beginnings.
    """

    def __init__(self, rows, ends, leaders):
        self.ends = ends
        self.leaders = leaders
        self.above = list(range(len(rows)))
        self.out = [{letter: (state, there) for letter, there in row} for state, row in enumerate(rows)]
        self.into = [{} for _ in rows]
        self.queue = []
        self.log = []
        self.look_at_ends()
        for state, row in enumerate(rows):
            for letter, there in row:
                self.look_at_arrow((letter, leaders[state]), state, there)

    def look_at_ends(self):
        """Put the merges of ends that have the same leader in the queue."""
        firsts = {}
        for end in self.ends:
            first = firsts.setdefault(self.leaders[end], end)
            if first != end:
                self.queue.append((first, end, first, end, "ends"))

    def look_at_arrow(self, kind, state, lump):
        """Note an arrow from the state into the lump; its kind is its letter and the state's leader."""
        first = self.into[lump].setdefault(kind, state)
        if first != state:
            self.queue.append((first, state, first, state, "meets"))

    def settle(self):
        """Make all merges that are allowed, the oldest ones first."""
        done = 0
        while done < len(self.queue):
            self.merge(self.queue[done])
            done += 1
        self.queue = []

    def merge(self, told):
        """Put the lumps of a merge together, unless they already are, and queue the merges that come of it."""
        kept, taken = self.lump_of(told[0]), self.lump_of(told[1])
        if kept == taken:
            return
        self.log.append(told)
        self.above[taken] = kept
        row = self.out[kept]
        for letter, arrow in list(self.out[taken].items()):
            state, there = row.setdefault(letter, arrow)
            if there != arrow[1]:
                self.queue.append((there, arrow[1], state, arrow[0], "step"))
        for kind, state in list(self.into[taken].items()):
            self.look_at_arrow(kind, state, kept)

    def lump_of(self, state):
        """Return the state that stands for the lump of the state."""
        top = state
        while self.above[top] != top:
            top = self.above[top]
        # The way up is made short, so that it is not gone again and again.
        below = state
        while below != top:
            after = self.above[below]
            self.above[below] = top
            below = after
        return top

    def steps(self, lump):
        """Return the list of the letters that lead on from the lump, with the lumps that they lead to."""
        return sorted([(letter, self.lump_of(arrow[1])) for letter, arrow in self.out[lump].items()])

    def end_lumps(self):
        """Return the dict of the lumps that have an end."""
        return {self.lump_of(end): True for end in self.ends}

    def machine(self):
        """Return the machine that takes what the lumps take."""
        marks = self.end_lumps()

        def is_end(lump):
            return lump in marks

        return machine_from(self.lump_of(0), self.steps, is_end)

    def has(self, run):
        """Tell whether the lumps take the run."""
        place = self.lump_of(0)
        for letter in run:
            if letter not in self.out[place]:
                return False
            place = self.lump_of(self.out[place][letter][1])
        return place in self.end_lumps()


def settled(rows, ends, leaders):
    """Return the lumps behind all merges that are allowed."""
    lumps = Lumps(rows, ends, leaders)
    lumps.settle()
    return lumps


def grown(runs, k):
    """Return the tree that has a state for each beginning of the runs.

    It is told as the lists of its arrows, its ends, its leaders, and the beginnings.
    """
    moves, ends = tree_of(runs)
    names = [""] * len(moves)
    for state, row in enumerate(moves):
        for letter, there in row.items():
            names[there] = names[state] + letter
    return [sorted(row.items()) for row in moves], sorted(ends), [last_letters(name, k) for name in names], names


def lumps_of_runs(runs, k):
    """Return the lumps of the runs, behind all merges that are allowed."""
    rows, ends, leaders, _ = grown(runs, k)
    return settled(rows, ends, leaders)
