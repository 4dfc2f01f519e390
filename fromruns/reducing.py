"""Bringing what was explored into the one form of a machine."""

from fromruns.exploring import explored

EMPTY = ((), ())
EMPTY_RUN = (((),), (0,))


class Classes:
    """Classes of states, split until all states of a class have the same arrows, told by classes.

    The states of a class that are not in doubt have the same arrows. So only
    those in doubt are looked at again, and of the parts of a class the largest
    one stays where it is: no state is moved more often than its class is halved.
    """

    def __init__(self, rows, kinds):
        self.rows = rows
        self.kinds = list(kinds)
        self.sources = sources_of(rows)
        self.members = [{} for _ in range(max(kinds) + 1)]
        self.doubted = {}
        self.queue = []
        for state, kind in enumerate(kinds):
            self.members[kind][state] = True
            self.doubt(state)

    def doubt(self, state):
        """Put the state among those of its class that are to be looked at again."""
        kind = self.kinds[state]
        if kind not in self.doubted:
            self.doubted[kind] = {}
            self.queue.append(kind)
        self.doubted[kind][state] = True

    def settle(self):
        """Split classes until no state is in doubt."""
        while self.queue:
            kind = self.queue.pop()
            moved = self.divide(kind, self.doubted.pop(kind))
            for state in moved:
                for source in self.sources[state]:
                    self.doubt(source)

    def divide(self, kind, unsure):
        """Move all parts of the class but its largest one; return the moved states."""
        members = self.members[kind]
        if 2 * len(unsure) < len(members):
            parts = self.parts_of(unsure)
            sure = next((state for state in members if state not in unsure), None)
            parts.pop(self.arrows_by_class(sure), None)
        else:
            parts = self.parts_of(members)
            parts.pop(max(parts, key=lambda arrows: len(parts[arrows])))
        moved = []
        for part in parts.values():
            self.move(kind, part)
            moved.extend(part)
        return moved

    def parts_of(self, states):
        """Return a dict of the lists of those states that have the same arrows, told by classes."""
        parts = {}
        for state in states:
            parts.setdefault(self.arrows_by_class(state), []).append(state)
        return parts

    def arrows_by_class(self, state):
        """Return the arrows of the state, each leading to a class."""
        return tuple([(letter, self.kinds[there]) for letter, there in self.rows[state]])

    def move(self, kind, part):
        """Take the states out of their class and put them into a new one."""
        number = len(self.members)
        self.members.append({})
        for state in part:
            del self.members[kind][state]
            self.members[number][state] = True
            self.kinds[state] = number


def machine_from(start, steps, is_end):
    """Return the machine that takes the runs that lead from the start to an end.

    What start, steps and is_end are is told in fromruns/exploring.py.
    """
    rows, ends = explored(start, steps, is_end)
    living = living_states(rows, ends)
    if not living[0]:
        return EMPTY
    kept = [[(letter, there) for letter, there in row if living[there]] for row in rows]
    classes = Classes(kept, first_kinds(living, ends))
    classes.settle()
    return numbered(kept, ends, classes.kinds)


def sources_of(rows):
    """Return for each state the list of the states of the arrows to it."""
    sources = [[] for _ in rows]
    for state, row in enumerate(rows):
        for _, there in row:
            sources[there].append(state)
    return sources


def living_states(rows, ends):
    """Return a list that tells for each state whether some run leads from it to an end."""
    sources = sources_of(rows)
    living = list(ends)
    waiting = [state for state, end in enumerate(ends) if end]
    while waiting:
        state = waiting.pop()
        for source in sources[state]:
            if not living[source]:
                living[source] = True
                waiting.append(source)
    return living


def first_kinds(living, ends):
    """Return the classes to begin with: ends, other living states, and the rest."""
    return [2 if end else 1 if alive else 0 for alive, end in zip(living, ends)]


def numbered(rows, ends, kinds):
    """Return the machine whose states are the classes, numbered in the order of their first runs."""
    samples = {}
    for state, kind in enumerate(kinds):
        samples.setdefault(kind, state)

    def steps(kind):
        return [(letter, kinds[there]) for letter, there in rows[samples[kind]]]

    def is_end(kind):
        return ends[samples[kind]]

    told, marks = explored(kinds[0], steps, is_end)
    return tuple([tuple(row) for row in told]), tuple([state for state, mark in enumerate(marks) if mark])
