"""Bundles: machines as objects."""

from fromruns.combining import either, followed, meet, outside, without
from fromruns.learning import close, learn
from fromruns.machines import arrows_of, runs_machine, takes
from fromruns.parts import behind


class Bundle:
    """The runs that a machine takes; no method changes it."""

    def __init__(self, machine):
        self.held = machine
        self._arrows = tuple(arrows_of(machine))

    @staticmethod
    def of_runs(*runs):
        """Return the bundle of exactly these runs."""
        return Bundle(runs_machine(runs))

    @classmethod
    def learned(cls, runs, *, k=0):
        """Return the bundle of the closure of the runs."""
        return cls(learn(runs, k))

    @property
    def size(self):
        """The number of the states of the machine."""
        return len(self.held[0])

    def closed(self, *, k=0):
        """Return the bundle of the closure."""
        return Bundle(close(self.held, k))

    def both(self, other):
        """Return the bundle of the runs that both bundles have."""
        return Bundle(meet(self.held, other.held))

    def more(self, other):
        """Return the bundle of the runs that at least one of the bundles has."""
        return Bundle(either(self.held, other.held))

    def less(self, other):
        """Return the bundle of the runs that this bundle has and the other one has not."""
        return Bundle(without(self.held, other.held))

    def then(self, other):
        """Return the bundle of the runs made of a run of this bundle followed by a run of the other one."""
        return Bundle(followed(self.held, other.held))

    def within(self, other):
        """Tell whether the other bundle has all runs of this one."""
        return outside(self.held, other.held) is None

    def __contains__(self, run):
        return takes(self.held, run)

    def __bool__(self):
        return len(self.held[0]) > 0

    def __call__(self, run):
        return Bundle(behind(self.held, run))

    def __iter__(self):
        return iter(self._arrows)
