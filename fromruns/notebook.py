"""Notebooks of runs that were seen and runs that are barred."""

from fromruns.barring import first_clash, kind_of
from fromruns.errors import Clash, KnownRun, NothingToUndo, UnknownRun
from fromruns.learning import learn
from fromruns.words import in_order, without_run


class Notebook:
    """Seen and barred runs that never clash for k, and what they were before each deed."""

    def __init__(self, k):
        self._k = k
        self._seen = ()
        self._barred = ()
        self._past = []

    def see(self, run):
        """Put the run among the seen ones; raise KnownRun or Clash if it may not stand there."""
        self._check_unknown(run)
        more = in_order((*self._seen, run))
        self._check_apart(more, self._barred)
        self._change(more, self._barred)

    def bar(self, run):
        """Put the run among the barred ones; raise KnownRun or Clash if it may not stand there."""
        self._check_unknown(run)
        self._check_apart(self._seen, (run,))
        self._change(self._seen, in_order((*self._barred, run)))

    def forget(self, run):
        """Take the run out of the seen or the barred ones; raise UnknownRun if it is in neither."""
        if not self._knows(run):
            raise UnknownRun(run)
        self._change(without_run(self._seen, run), without_run(self._barred, run))

    def undo(self):
        """Take back the last deed; raise NothingToUndo if there is none."""
        if not self._past:
            raise NothingToUndo("no deed is left")
        self._seen, self._barred = self._past.pop()

    def seen(self):
        """Return the tuple of the seen runs, in order."""
        return self._seen

    def barred(self):
        """Return the tuple of the barred runs, in order."""
        return self._barred

    def machine(self):
        """Return the machine of the closure of the seen runs."""
        return learn(self._seen, self._k)

    def kind(self, run):
        """Return the kind of the run, "sure", "never" or "open"."""
        return kind_of(self._seen, self._barred, self._k, run)

    @property
    def deeds(self):
        """The number of the deeds that are not taken back."""
        return len(self._past)

    def _knows(self, run):
        return run in self._seen or run in self._barred

    def _check_unknown(self, run):
        if self._knows(run):
            raise KnownRun(run)

    def _check_apart(self, seen, barred):
        clash = first_clash(seen, barred, self._k)
        if clash is not None:
            raise Clash(clash)

    def _change(self, seen, barred):
        self._past.append((self._seen, self._barred))
        self._seen = seen
        self._barred = barred
