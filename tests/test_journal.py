import random
import unittest

from fromruns.combining import outside
from fromruns.errors import FromrunsError, NothingToUndo, OpenCase, UnknownCase
from fromruns.journal import Journal
from fromruns.learning import learn
from fromruns.machines import machine_of, runs_machine
from tests.closing import slow_web
from tests.reference import has_state, ordered, random_web, ring, web_takes, without_delay

EMPTY = ((), ())
EMPTY_RUN = (((),), (0,))
ALL = (((("a", 0), ("b", 0)),), (0,))
SOME = (EMPTY, EMPTY_RUN, ALL, ring(3), machine_of(random_web(1, least=1)), runs_machine(("ab", "aab")))


def told(journal):
    """All that a journal tells."""
    news = tuple(journal.news(machine) for machine in SOME)
    return journal.open_cases(), journal.finished_runs(), journal.machine(), journal.strange_cases(), news


class Model:
    """Point [36], by its words."""

    def __init__(self, k):
        self.k = k
        self.cases = {}
        self.finished = set()
        self.past = []

    def machine(self):
        return machine_of(slow_web(tuple(ordered(self.finished)), self.k))

    def why_not(self, deed, case=None, letter=None):
        """The error that the deed raises, or None."""
        if deed == "undo":
            return None if self.past else NothingToUndo
        if deed == "begin":
            return OpenCase if case in self.cases else None
        return None if case in self.cases else UnknownCase

    def do(self, deed, case=None, letter=None):
        """Do the deed; return what it returns."""
        if deed == "undo":
            self.cases, self.finished = self.past.pop()
            return None
        self.past.append((dict(self.cases), set(self.finished)))
        if deed == "begin":
            self.cases[case] = ""
        elif deed == "step":
            self.cases[case] += letter
        else:
            run = self.cases.pop(case)
            known = web_takes(slow_web(tuple(ordered(self.finished)), self.k), run)
            self.finished.add(run)
            return known
        return None

    def told(self):
        machine = self.machine()
        strange = tuple(case for case in sorted(self.cases) if not has_state(machine, self.cases[case]))
        news = tuple(outside(machine, other) for other in SOME)
        return tuple(sorted(self.cases.items())), tuple(ordered(self.finished)), machine, strange, news


class Journals(unittest.TestCase):
    def call(self, journal, model, deed, *arguments):
        """Do the deed with both, and return the kind of what it raised, or what it returned."""
        wanted = model.why_not(deed, *arguments)
        if wanted is None:
            result = getattr(journal, deed)(*arguments)
            self.assertIs(result, model.do(deed, *arguments))
        else:
            result = wanted
            before = told(journal)
            with self.assertRaises(FromrunsError) as caught:
                getattr(journal, deed)(*arguments)
            self.assertIs(type(caught.exception), wanted)
            self.assertEqual(vars(caught.exception), {"case": arguments[0]} if arguments else {})
            self.assertEqual(told(journal), before)
        self.assertEqual(told(journal), model.told())
        return result

    def test_many_deeds(self):
        counts = {}
        for seed in range(80):
            pick = random.Random(seed)
            k = pick.choice((0, 0, 1, 1, 2, 20))
            journal, model = Journal(k), Model(k)
            for _ in range(40):
                case = pick.choice((0, 7, -3))
                deed = pick.choice(("begin", "step", "step", "step", "finish", "undo"))
                arguments = {"undo": (), "step": (case, pick.choice("aab"))}.get(deed, (case,))
                result = self.call(journal, model, deed, *arguments)
                counts[(deed, result)] = counts.get((deed, result), 0) + 1
        wanted = [("begin", None), ("begin", OpenCase), ("step", None), ("step", UnknownCase), ("finish", True)]
        wanted += [("finish", False), ("finish", UnknownCase), ("undo", None), ("undo", NothingToUndo)]
        self.assertEqual(set(counts), set(wanted))
        self.assertGreater(min(counts.values()), 10)

    def test_all_is_undone(self):
        for seed in range(40):
            pick = random.Random(seed)
            journal, states = Journal(seed % 3), []
            while len(states) < 20:
                state = told(journal)
                deed, case = pick.choice(("begin", "step", "step", "finish")), pick.choice((1, 2))
                try:
                    getattr(journal, deed)(case, *(("ab"[seed % 2],) if deed == "step" else ()))
                except FromrunsError:
                    self.assertEqual(told(journal), state)
                    continue
                states.append(state)
            for state in states[::-1]:
                self.assertIsNone(journal.undo())
                self.assertEqual(told(journal), state)
            for _ in range(2):
                with self.assertRaises(NothingToUndo):
                    journal.undo()
                self.assertEqual(told(journal), states[0])

    def test_undoing_each_kind_of_deed(self):
        journal = Journal(0)
        journal.begin(1)
        journal.step(1, "a")
        self.assertIs(journal.finish(1), False)
        journal.begin(1)
        self.assertIs(journal.finish(1), False)
        self.assertEqual(journal.finished_runs(), ("", "a"))
        journal.undo()
        self.assertEqual((journal.open_cases(), journal.finished_runs()), (((1, ""),), ("a",)))
        with self.assertRaises(OpenCase):
            journal.begin(1)
        journal.undo()
        self.assertEqual((journal.open_cases(), journal.finished_runs()), ((), ("a",)))
        journal.undo()
        self.assertEqual((journal.open_cases(), journal.finished_runs()), (((1, "a"),), ()))
        journal.undo()
        self.assertEqual(journal.open_cases(), ((1, ""),))
        # undoing is no deed, so the next one takes back the deed before
        journal.undo()
        self.assertEqual(journal.open_cases(), ())
        with self.assertRaises(NothingToUndo):
            journal.undo()
        with self.assertRaises(UnknownCase) as caught:
            journal.step(1, "a")
        self.assertEqual(caught.exception.case, 1)

    def test_a_run_that_is_finished_twice(self):
        journal = Journal(2)
        for known in (False, True):
            journal.begin(5)
            journal.step(5, "b")
            self.assertIs(journal.finish(5), known)
            self.assertEqual(journal.finished_runs(), ("b",))
        # taking back the second finishing leaves the run of the first one
        journal.undo()
        self.assertEqual((journal.open_cases(), journal.finished_runs()), (((5, "b"),), ("b",)))
        for _ in range(3):
            journal.undo()
        self.assertEqual((journal.open_cases(), journal.finished_runs()), (((5, "b"),), ()))

    def test_a_case_that_is_opened_again(self):
        journal = Journal(0)
        journal.begin(-2)
        with self.assertRaises(OpenCase) as caught:
            journal.begin(-2)
        self.assertEqual(caught.exception.case, -2)
        journal.step(-2, "c")
        journal.finish(-2)
        with self.assertRaises(UnknownCase) as caught:
            journal.finish(-2)
        self.assertEqual(caught.exception.case, -2)
        journal.begin(-2)
        self.assertEqual(journal.open_cases(), ((-2, ""),))

    def test_an_empty_journal(self):
        for k in (0, 1, 20):
            journal = Journal(k)
            self.assertEqual(told(journal), ((), (), EMPTY, (), (None,) * len(SOME)))
            for deed in (lambda: journal.finish(0), lambda: journal.step(0, "a")):
                with self.assertRaises(UnknownCase) as caught:
                    deed()
                self.assertEqual(caught.exception.case, 0)
            with self.assertRaises(NothingToUndo):
                journal.undo()
            # without finished runs no run begins one, not even the empty run
            journal.begin(0)
            self.assertEqual(journal.strange_cases(), (0,))
            self.assertIs(journal.finish(0), False)
            self.assertEqual(journal.machine(), EMPTY_RUN)
            journal.begin(0)
            self.assertEqual(journal.strange_cases(), ())
            self.assertIs(journal.finish(0), True)

    def test_strange_cases_and_news(self):
        journal = Journal(1)
        for run in ("ab", "aab"):
            journal.begin(9)
            for letter in run:
                journal.step(9, letter)
            journal.finish(9)
        self.assertEqual(journal.machine(), learn(("ab", "aab"), 1))
        for case, letters in ((4, "aaaa"), (-8, "b"), (3, "aba"), (0, "aaab"), (11, "")):
            journal.begin(case)
            for letter in letters:
                journal.step(case, letter)
        self.assertEqual(journal.strange_cases(), (-8, 3))
        self.assertEqual(journal.open_cases(), ((-8, "b"), (0, "aaab"), (3, "aba"), (4, "aaaa"), (11, "")))
        self.assertEqual(journal.news(EMPTY), "ab")
        self.assertEqual(journal.news(runs_machine(("ab", "aab"))), "aaab")
        self.assertIsNone(journal.news(ALL))
        self.assertIs(journal.finish(0), True)
        self.assertEqual(journal.finished_runs(), ("ab", "aab", "aaab"))
        self.assertIs(journal.finish(3), False)

    def test_two_journals_side_by_side(self):
        first, second = Journal(0), Journal(0)
        first.begin(1)
        self.assertEqual(second.open_cases(), ())
        second.begin(1)
        second.step(1, "a")
        self.assertEqual(first.open_cases(), ((1, ""),))
        first.finish(1)
        self.assertEqual(second.finished_runs(), ())
        second.undo()
        second.undo()
        with self.assertRaises(NothingToUndo):
            second.undo()
        self.assertEqual(first.finished_runs(), ("",))

    def test_as_large_as_allowed(self):
        for k in (0, 1, 20):
            with without_delay(self):
                journal = Journal(k)
                for case in range(13):
                    journal.begin(case)
                    for at in range(case % 5 + 1):
                        journal.step(case, "abcdef"[(case * at + at) % 6])
                    if case < 11:
                        journal.finish(case)
                journal.begin(10 ** 30)
                self.assertEqual([case for case, _ in journal.open_cases()], [11, 12, 10 ** 30])
                self.assertEqual(journal.machine(), learn(journal.finished_runs(), k))
                done = 0
                while journal.open_cases() or journal.finished_runs():
                    journal.undo()
                    done += 1
                    journal.strange_cases()
                self.assertTrue(60 < done <= 80)
                with self.assertRaises(NothingToUndo):
                    journal.undo()


if __name__ == "__main__":
    unittest.main()
