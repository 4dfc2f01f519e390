"""Watches that follow one run letter by letter."""

from fromruns.errors import NothingToUndo
from fromruns.machines import state_along


class Watch:
    """The states of a machine that the letters so far have led to; None where the watch has left."""

    def __init__(self, machine):
        self._rows, self._ends = machine
        self._states = [0 if self._rows else None]

    def letter(self, letter):
        """Follow one further letter; tell whether the watch is still on the way."""
        state = self._states[-1]
        # Some run leads from each state to an end, so each state is on the way.
        self._states.append(None if state is None else state_along(self._rows[state], letter))
        return self._states[-1] is not None

    def back(self):
        """Take back the last letter; raise NothingToUndo if there is none."""
        if len(self._states) == 1:
            raise NothingToUndo("no letter is left")
        self._states.pop()

    def left(self):
        """Return the number of the letter at which the watch has left, or None if it is on the way."""
        return self._states.index(None) if None in self._states else None

    def may_end(self):
        """Tell whether the letters so far are a run that the machine takes."""
        return self._states[-1] in self._ends

    def may_follow(self):
        """Return the string of the letters, ascending, with which the watch would still be on the way."""
        state = self._states[-1]
        return "" if state is None else "".join([letter for letter, _ in self._rows[state]])
