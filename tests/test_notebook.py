import random
import unittest

from fromruns.barring import kind_of
from fromruns.errors import Clash, FromrunsError, KnownRun, NothingToUndo, UnknownRun
from fromruns.learning import learn
from fromruns.machines import machine_of
from fromruns.notebook import Notebook
from tests.closing import slow_web, walk
from tests.reference import all_runs, ordered, web_takes, without_delay

RUNS = all_runs("ab", 3) + ["aaab", "abab", "bbbb"]
ERRORS = {"see": (KnownRun, Clash), "bar": (KnownRun, Clash), "forget": (UnknownRun,), "undo": (NothingToUndo,)}


def explains(runs, k, run):
    return web_takes(slow_web(tuple(ordered(runs)), k), run)


def state_of(notebook):
    """All that a notebook tells."""
    kinds = tuple(notebook.kind(run) for run in ("", "a", "ab", "bb", "aab"))
    return notebook.seen(), notebook.barred(), notebook.machine(), kinds, notebook.deeds


class Model:
    """Point [27], by its words."""

    def __init__(self, k):
        self.k = k
        self.seen = set()
        self.barred = set()
        self.past = []

    def why_not(self, deed, run=None):
        """The kind and the run of the error that the deed raises, or None."""
        if deed == "undo":
            return None if self.past else (NothingToUndo, None)
        if deed == "forget":
            return None if run in self.seen | self.barred else (UnknownRun, run)
        if run in self.seen | self.barred:
            return KnownRun, run
        if deed == "see":
            clashes = [told for told in ordered(self.barred) if explains(self.seen | {run}, self.k, told)]
            return (Clash, clashes[0]) if clashes else None
        return (Clash, run) if explains(self.seen, self.k, run) else None

    def do(self, deed, run=None):
        if deed == "undo":
            self.seen, self.barred = self.past.pop()
            return
        self.past.append((set(self.seen), set(self.barred)))
        if deed == "see":
            self.seen.add(run)
        elif deed == "bar":
            self.barred.add(run)
        else:
            self.seen.discard(run)
            self.barred.discard(run)


class Notebooks(unittest.TestCase):
    def check(self, notebook, model):
        self.assertEqual(notebook.seen(), tuple(ordered(model.seen)))
        self.assertEqual(notebook.barred(), tuple(ordered(model.barred)))
        self.assertEqual(notebook.deeds, len(model.past))
        self.assertIs(type(notebook.deeds), int)

    def call(self, notebook, model, deed, *run):
        """Do the deed with both, and return what it raised."""
        wanted = model.why_not(deed, *run)
        before = state_of(notebook)
        if wanted is None:
            self.assertIsNone(getattr(notebook, deed)(*run))
            model.do(deed, *run)
        else:
            with self.assertRaises(FromrunsError) as caught:
                getattr(notebook, deed)(*run)
            self.assertIs(type(caught.exception), wanted[0])
            self.assertEqual(vars(caught.exception), {} if wanted[1] is None else {"run": wanted[1]})
            self.assertEqual(state_of(notebook), before)
        self.check(notebook, model)
        return wanted and wanted[0]

    def test_many_deeds(self):
        raised = {}
        for seed in range(60):
            pick = random.Random(seed)
            k = pick.choice((0, 0, 1, 1, 2, 3, 20))
            notebook, model = Notebook(k), Model(k)
            for _ in range(30):
                deed = pick.choice(("see", "see", "bar", "bar", "forget", "undo"))
                known = sorted(model.seen | model.barred)
                run = pick.choice(known) if known and pick.random() < 0.3 else pick.choice(RUNS)
                if deed == "bar" and model.seen and pick.random() < 0.4:
                    run = walk(notebook.machine(), pick.random(), 4)
                why = self.call(notebook, model, deed, *(() if deed == "undo" else (run,)))
                raised[(deed, why)] = raised.get((deed, why), 0) + 1
            self.assertEqual(notebook.machine(), machine_of(slow_web(tuple(ordered(model.seen)), k)))
            for run in RUNS:
                self.assertEqual(notebook.kind(run), kind_of(notebook.seen(), notebook.barred(), k, run))
        for deed, errors in ERRORS.items():
            for error in (None, *errors):
                self.assertGreater(raised[(deed, error)], 5, (deed, error))

    def test_all_is_undone(self):
        for seed in range(30):
            pick = random.Random(seed)
            notebook, states = Notebook(seed % 3), []
            while len(states) < 15:
                state = state_of(notebook)
                try:
                    getattr(notebook, pick.choice(("see", "see", "bar", "forget")))(pick.choice(RUNS))
                except FromrunsError:
                    self.assertEqual(state_of(notebook), state)
                    continue
                states.append(state)
            for state in states[::-1]:
                self.assertIsNone(notebook.undo())
                self.assertEqual(state_of(notebook), state)
            for _ in range(2):
                with self.assertRaises(NothingToUndo):
                    notebook.undo()
                self.assertEqual(state_of(notebook), states[0])

    def test_undoing_is_no_deed(self):
        notebook = Notebook(1)
        notebook.see("ab")
        notebook.bar("b")
        notebook.forget("ab")
        notebook.undo()
        self.assertEqual((notebook.seen(), notebook.barred(), notebook.deeds), (("ab",), ("b",), 2))
        notebook.undo()
        self.assertEqual((notebook.seen(), notebook.barred(), notebook.deeds), (("ab",), (), 1))
        notebook.see("b")
        notebook.undo()
        notebook.undo()
        self.assertEqual((notebook.seen(), notebook.barred(), notebook.deeds), ((), (), 0))
        with self.assertRaises(NothingToUndo):
            notebook.undo()
        notebook.bar("")
        self.assertEqual(notebook.deeds, 1)

    def test_an_empty_notebook(self):
        for k in (0, 1, 20):
            notebook = Notebook(k)
            self.assertEqual(notebook.seen(), ())
            self.assertEqual(notebook.barred(), ())
            self.assertEqual(notebook.machine(), ((), ()))
            self.assertEqual(notebook.kind(""), "open")
            self.assertEqual(notebook.deeds, 0)
            with self.assertRaises(UnknownRun) as caught:
                notebook.forget("")
            self.assertEqual(caught.exception.run, "")
            with self.assertRaises(NothingToUndo):
                notebook.undo()

    def test_the_errors_come_in_their_order(self):
        notebook = Notebook(1)
        notebook.see("ab")
        with self.assertRaises(KnownRun) as caught:
            notebook.see("ab")
        self.assertEqual(caught.exception.run, "ab")
        # the closure has ab, too, but it is known
        with self.assertRaises(KnownRun):
            notebook.bar("ab")
        for run in ("aaaab", "b", "aaab"):
            notebook.bar(run)
        # aaab would clash with itself, but it is known
        with self.assertRaises(KnownRun) as caught:
            notebook.see("aaab")
        self.assertEqual(caught.exception.run, "aaab")
        # with aab the closure has both aaab and aaaab; the first of them is told
        with self.assertRaises(Clash) as caught:
            notebook.see("aab")
        self.assertEqual(caught.exception.run, "aaab")
        notebook.forget("aaab")
        with self.assertRaises(Clash) as caught:
            notebook.see("aab")
        self.assertEqual(caught.exception.run, "aaaab")
        notebook.forget("aaaab")
        notebook.see("aab")
        with self.assertRaises(Clash) as caught:
            notebook.bar("aaaaaab")
        self.assertEqual(caught.exception.run, "aaaaaab")
        self.assertEqual((notebook.seen(), notebook.barred(), notebook.deeds), (("ab", "aab"), ("b",), 7))

    def test_what_is_forgotten_may_come_again(self):
        notebook = Notebook(0)
        notebook.see("a")
        notebook.forget("a")
        with self.assertRaises(UnknownRun) as caught:
            notebook.forget("a")
        self.assertEqual(caught.exception.run, "a")
        notebook.bar("a")
        self.assertEqual((notebook.seen(), notebook.barred()), ((), ("a",)))
        with self.assertRaises(KnownRun):
            notebook.see("a")
        notebook.forget("a")
        notebook.see("a")
        self.assertEqual((notebook.seen(), notebook.barred(), notebook.deeds), (("a",), (), 5))
        # a run that the closure has, but that is not among the seen ones, is not known
        notebook.see("")
        with self.assertRaises(UnknownRun):
            notebook.forget("aaa")
        notebook.see("aaa")
        self.assertEqual(notebook.seen(), ("", "a", "aaa"))

    def test_two_notebooks_side_by_side(self):
        first, second = Notebook(0), Notebook(0)
        first.see("a")
        self.assertEqual((second.seen(), second.deeds), ((), 0))
        second.bar("a")
        first.see("")
        self.assertEqual(first.machine(), learn(("", "a"), 0))
        self.assertEqual(second.machine(), ((), ()))
        self.assertEqual(second.barred(), ("a",))
        second.undo()
        self.assertEqual((first.deeds, second.deeds), (2, 0))
        with self.assertRaises(NothingToUndo):
            second.undo()

    def test_the_same_again(self):
        for k in (0, 1, 2):
            told = []
            for _ in range(2):
                notebook = Notebook(k)
                for run in ("ab", "aab", "", "b"):
                    try:
                        notebook.see(run)
                    except Clash:
                        notebook.undo()
                    if run == "aab":
                        notebook.bar("bb")
                    told.append(state_of(notebook))
            self.assertEqual(told[:4], told[4:])

    def test_as_large_as_allowed(self):
        seen = [x + y * many for x in "abcd" for y in "ef" for many in (1, 2, 3)] + ["a" * 60]
        barred = ["f" * at for at in range(1, 8)] + ["e" * at + "b" for at in range(1, 6)] + ["c", "d"]
        self.assertLessEqual(sum(map(len, seen)), 200)
        for k in (0, 1, 2, 20):
            with without_delay(self):
                notebook = Notebook(k)
                model = Model(k)
                for run in seen + barred:
                    deed = "see" if run in seen else "bar"
                    if model.why_not(deed, run) is None:
                        getattr(notebook, deed)(run)
                        model.do(deed, run)
                self.check(notebook, model)
                state = state_of(notebook)
                while notebook.deeds < 79:
                    notebook.forget("a" * 60)
                    notebook.see("a" * 60)
                self.assertEqual(state_of(notebook)[:4], state[:4])
                for _ in range(notebook.deeds):
                    notebook.undo()
                self.assertEqual((notebook.seen(), notebook.barred()), ((), ()))
                with self.assertRaises(NothingToUndo):
                    notebook.undo()


if __name__ == "__main__":
    unittest.main()
