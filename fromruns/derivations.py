"""Derivations: from the runs, by corners, to each run of the closure."""

from fromruns.learning import learn
from fromruns.machines import takes
from fromruns.merging import merge_log
from fromruns.words import beginnings, in_order, last_letters


class Derived:
    """Lines that derive runs of the closure.

    Each lump of beginnings has a word: what follows, in some line, each
    beginning of the lump. So a line in which something else follows one of
    them leads, by a single corner, to the line in which it follows another.
    """

    def __init__(self, runs, k):
        self.runs = in_order(runs)
        self.lines = []
        self.numbers = {}
        self.lumps = {}
        self.words = {}
        for run in self.runs:
            self.note(run, ())
        for name in beginnings(runs):
            self.lumps[name] = [name]
            self.words[name] = [run[len(name):] for run in self.runs if run.startswith(name)][0]
        for merge in merge_log(runs, k):
            self.follow(merge)

    def note(self, run, reason):
        """Put down a line, unless the run has one."""
        if run not in self.numbers:
            self.numbers[run] = len(self.lines)
            self.lines.append((run, reason))

    def move(self, p, q, word, rest):
        """Derive q with the rest from p with the rest, where both have a line with the word."""
        numbers = self.numbers
        self.note(q + rest, (numbers[p + word], numbers[q + word], numbers[p + rest], len(p), len(q)))

    def move_all(self, p, rest):
        """Derive each beginning of the lump of p with the rest, from p with the rest."""
        for q in self.lumps[p]:
            self.move(p, q, self.words[p], rest)

    def follow(self, merge):
        """Derive what the beginnings of two lumps have in common when the merge puts the lumps together."""
        p, q, f, g, reason = merge
        if reason == "ends":
            self.unite(f, g, "")
        elif reason == "meets":
            letter = self.meeting(f, g)
            self.unite(f, g, letter + self.words[f + letter])
        else:
            self.move(f, g, self.words[f], p[-1] + self.words[p])
            self.unite(p, q, self.words[p])

    def meeting(self, f, g):
        """Return the letter with which f and g become beginnings that are in the same lump."""
        after = [name for name in self.lumps if name != "" and name[:-1] == f]
        return [name[-1] for name in after if g + name[-1] in self.lumps[name]][0]

    def unite(self, p, q, word):
        """Put the lumps of p and q together, with the word; p and q have lines with it."""
        self.move_all(p, word)
        self.move_all(q, word)
        members = self.lumps[p] + self.lumps[q]
        for name in members:
            self.lumps[name] = members
            self.words[name] = word

    def reach(self, run):
        """Derive the run, which is in the closure."""
        place = ""
        for at, letter in enumerate(run):
            f = [name for name in self.lumps[place] if name + letter in self.lumps][0]
            self.move(f, run[:at], self.words[place], letter + self.words[f + letter])
            place = f + letter
        end = [name for name in self.lumps[place] if name in self.runs][0]
        self.move(end, run, self.words[place], "")

    def lines_for(self, run):
        """Return the tuple of the lines that the line of the run needs, and of this line itself."""
        needed = {self.numbers[run]: True}
        for at in reversed(range(self.numbers[run] + 1)):
            if at in needed:
                for number in self.lines[at][1][:3]:
                    needed[number] = True
        places = {number: at for at, number in enumerate(sorted(needed))}
        return tuple([renumbered(self.lines[number], places) for number in places])


def renumbered(line, places):
    """Return the line with its reason's lines numbered by their places."""
    run, reason = line
    return run, tuple([places[number] for number in reason[:3]]) + reason[3:]


def derive(runs, k, run):
    """Return a derivation of the run, or None if the run is not in the closure."""
    if not takes(learn(runs, k), run):
        return None
    derived = Derived(runs, k)
    derived.reach(run)
    return derived.lines_for(run)


def judge_derivation(runs, k, lines, run):
    """Tell whether the lines are a derivation that derives the run."""
    if not lines or lines[-1][0] != run:
        return False
    return all([is_derived(runs, k, lines, at) for at in range(len(lines))])


def is_derived(runs, k, lines, at):
    """Tell whether the line with the number is one of the runs or comes of earlier lines as its reason tells."""
    made, reason = lines[at]
    if not reason:
        return made in runs
    if len(reason) != 5 or not all([0 <= number < at for number in reason[:3]]):
        return False
    one, other, long = [lines[number][0] for number in reason[:3]]
    m, n = reason[3:]
    if not (k <= m <= min(len(one), len(long)) and k <= n <= len(other)):
        return False
    if last_letters(one[:m], k) != last_letters(other[:n], k) or one[m:] != other[n:]:
        return False
    return long[:m] == one[:m] and made == other[:n] + long[m:]
