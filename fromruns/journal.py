"""Journals of cases that go on side by side."""

from fromruns.combining import outside
from fromruns.errors import NothingToUndo, OpenCase, UnknownCase
from fromruns.learning import learn
from fromruns.machines import state_behind, takes
from fromruns.words import in_order


class Journal:
    """The letters of the open cases and the finished runs, and what they were before each deed.

    The dict of the cases is never changed; each deed puts another one in its place.
    """

    def __init__(self, k):
        self._k = k
        self._cases = {}
        self._finished = ()
        self._past = []

    def begin(self, case):
        """Open the case; raise OpenCase if there is an open one of this name."""
        if case in self._cases:
            raise OpenCase(case)
        self._change({**self._cases, case: ""}, self._finished)

    def step(self, case, letter):
        """Add the letter to the case; raise UnknownCase if it is not open."""
        letters = self._letters(case)
        self._change({**self._cases, case: letters + letter}, self._finished)

    def finish(self, case):
        """Close the case; tell whether the closure had its run before. Raise UnknownCase if it is not open."""
        run = self._letters(case)
        known = takes(self.machine(), run)
        left = {name: letters for name, letters in self._cases.items() if name != case}
        self._change(left, in_order((*self._finished, run)))
        return known

    def undo(self):
        """Take back the last deed; raise NothingToUndo if there is none."""
        if not self._past:
            raise NothingToUndo("no deed is left")
        self._cases, self._finished = self._past.pop()

    def machine(self):
        """Return the machine of the closure of the finished runs."""
        return learn(self._finished, self._k)

    def open_cases(self):
        """Return the tuple of the pairs of the open cases and their letters, ascending."""
        return tuple(sorted(self._cases.items()))

    def finished_runs(self):
        """Return the tuple of the finished runs, in order."""
        return self._finished

    def strange_cases(self):
        """Return the tuple of the open cases whose letters begin no run of the closure, ascending."""
        machine = self.machine()
        return tuple([case for case, letters in self.open_cases() if state_behind(machine, letters) is None])

    def news(self, machine):
        """Return the first run in the closure of the finished runs that the machine does not take, or None."""
        return outside(self.machine(), machine)

    def _letters(self, case):
        if case not in self._cases:
            raise UnknownCase(case)
        return self._cases[case]

    def _change(self, cases, finished):
        self._past.append((self._cases, self._finished))
        self._cases = cases
        self._finished = finished
