import unittest

from fromruns.combining import outside
from fromruns.corners import judge_fault
from fromruns.errors import FromrunsError, NotClosed
from fromruns.learning import close, leads, learn
from fromruns.lots import is_lot, lean_lot, lot, spare_runs, teach
from fromruns.machines import letters_of, machine_of, runs_machine, takes
from tests.closing import is_closed_slowly, slow_web, some_runs, walk
from tests.reference import has, language, line, ordered, random_web, ring, without_delay

EMPTY = ((), ())
EMPTY_RUN = (((),), (0,))
ALL = (((("a", 0), ("b", 0)),), (0,))


def some_machines(many=80, size=4, arrows=7):
    machines = [EMPTY, EMPTY_RUN, ALL, line(3), ring(3), ring(3, ends=(0, 1)), runs_machine(("ab", "aab"))]
    return machines + [machine_of(random_web(seed, size=size, arrows=arrows, least=1)) for seed in range(many)]


def few_leads(machine, k):
    """Whether the machine has at most 30 leads; with two letters and a large k there may be too many to count."""
    return len(letters_of(machine)) <= 1 or k <= 4 and len(leads(machine, k)) <= 30


class Lots(unittest.TestCase):
    def check(self, machine, k, told):
        self.assertIs(type(told), tuple)
        self.assertEqual(list(told), ordered(told))
        self.assertTrue(all(type(run) is str and has(machine, run) for run in told))
        most = len(leads(machine, k))
        self.assertLessEqual(len(told), most * (len(letters_of(machine)) + 1))
        self.assertLessEqual(max(map(len, told), default=0), most + len(machine[0]))
        self.assertEqual(machine_of(slow_web(told, k)), close(machine, k))
        self.assertEqual(learn(told, k), close(machine, k))
        self.assertIs(is_lot(machine, k, told), True)

    def test_small_machines(self):
        for machine in some_machines():
            for k in (0, 1, 2, 3, 20):
                if few_leads(machine, k):
                    self.check(machine, k, lot(machine, k))
        for seed in range(30):
            machine = machine_of(random_web(seed, size=5, letters="abc", arrows=12, least=1))
            self.check(machine, seed % 2, lot(machine, seed % 2))

    def test_edges(self):
        for k in (0, 1, 20):
            self.assertEqual(lot(EMPTY, k), ())
            self.assertEqual(lot(EMPTY_RUN, k), ("",))
            self.assertEqual(teach(EMPTY, k), ())
            self.assertEqual(teach(EMPTY_RUN, k), ("",))
            self.assertEqual(lot(line(3), k), ("aaa",))
        self.assertEqual(lot(ring(1), 0), ("", "a"))

    def test_as_large_as_allowed(self):
        with without_delay(self):
            self.check(ring(30), 0, lot(ring(30), 0))
            self.check(ring(10), 20, lot(ring(10), 20))
            arrows = tuple((at, x, (at * 7 + 3 * n + 1) % 29) for at in range(29) for n, x in enumerate("abcdef"))
            machine = machine_of((29, arrows, (0,), (5,)))
            self.assertEqual(len(leads(machine, 0)), 29)
            self.check(machine, 0, lot(machine, 0))

    def test_teach(self):
        closed = 0
        for machine in some_machines():
            for k in range(4):
                if not few_leads(machine, k):
                    continue
                if is_closed_slowly(machine, k):
                    closed += 1
                    told = teach(machine, k)
                    self.check(machine, k, told)
                    self.assertEqual(learn(told, k), machine)
                    more = told + tuple(walk(machine, seed, 5) for seed in range(3 if machine[0] else 0))
                    self.assertEqual(learn(more, k), machine)
                    continue
                with self.assertRaises(NotClosed) as caught:
                    teach(machine, k)
                self.assertIsInstance(caught.exception, FromrunsError)
                fault = caught.exception.fault
                self.assertIs(type(fault), tuple)
                self.assertIs(judge_fault(machine, k, fault), True)
                self.assertLessEqual(max(map(len, fault)), len(machine[0]) + k)
        self.assertGreater(closed, 50)

    def test_teach_with_large_machines(self):
        with without_delay(self):
            self.check(ring(30), 0, teach(ring(30), 0))
            with self.assertRaises(NotClosed) as caught:
                teach(ring(10, ends=(0, 1)), 20)
            self.assertIs(judge_fault(ring(10, ends=(0, 1)), 20, caught.exception.fault), True)


class IsLot(unittest.TestCase):
    def rightly(self, machine, k, runs):
        return all(has(machine, run) for run in runs) and machine_of(slow_web(runs, k)) == close(machine, k)

    def test_by_its_words(self):
        right = 0
        for seed, machine in enumerate(some_machines()):
            for k in range(3):
                if not few_leads(machine, k):
                    continue
                runs = lot(machine, k)
                some = [runs[:at] + runs[at + 1:] for at in range(len(runs))] + [runs, runs[::-1] * 2, runs[:3]]
                some += [runs + ("ba",), tuple(language(machine, "ab", 4)), some_runs(seed), ()]
                for told in some:
                    self.assertIs(is_lot(machine, k, told), self.rightly(machine, k, told))
                    right += self.rightly(machine, k, told)
        self.assertGreater(right, 300)

    def test_edges(self):
        for k in (0, 1, 20):
            self.assertIs(is_lot(EMPTY, k, ()), True)
            self.assertIs(is_lot(EMPTY, k, ("",)), False)
            self.assertIs(is_lot(EMPTY_RUN, k, ()), False)
            self.assertIs(is_lot(EMPTY_RUN, k, ("", "")), True)
            self.assertIs(is_lot(EMPTY_RUN, k, ["", ""]), True)
            self.assertIs(is_lot(line(2), k, ("aa",)), True)
            self.assertIs(is_lot(line(2), k, ("aa", "a")), False)
        # the closure is the one of the machine, which need not be closed itself
        machine = ring(3, ends=(0, 1))
        self.assertIs(is_lot(machine, 0, ("", "a")), True)
        self.assertIs(is_lot(machine, 0, ("", "aaa")), False)
        self.assertIs(is_lot(machine, 0, ("", "aa")), False)

    def test_many_long_runs(self):
        machine = machine_of((28, tuple((at, x, (at + 1) % 28) for at in range(28) for x in "abc"), (0,), (27,)))
        runs = lot(machine, 0)
        more = runs + tuple(walk(machine, seed, 30) for seed in range(300 - len(runs)))
        self.assertTrue(len(more) == 300 and sum(map(len, more)) <= 16000)
        with without_delay(self):
            self.assertIs(is_lot(machine, 0, more), True)
            self.assertIs(is_lot(machine, 0, more[::-1]), True)
            self.assertIs(is_lot(machine, 0, more + ("a",)), False)
        machine = ring(29)
        runs = tuple("a" * 58 for _ in range(250))
        with without_delay(self):
            self.assertIs(is_lot(machine, 0, runs), False)
            self.assertIs(is_lot(machine, 0, runs + ("", "a" * 29)), True)
            self.assertIs(is_lot(machine, 0, runs + ("",)), False)
        runs = tuple(walk(ALL, seed, 53) for seed in range(300))
        with without_delay(self):
            self.assertIs(is_lot(ALL, 0, runs), False)
            self.assertIs(is_lot(ALL, 0, runs[:298] + ("", "a")), False)
            self.assertIs(is_lot(ALL, 0, runs[:297] + ("", "a", "b")), True)


class Spare(unittest.TestCase):
    def in_closure(self, runs, k, run):
        return has(machine_of(slow_web(tuple(runs), k)), run)

    def test_by_their_words(self):
        found = 0
        for seed in range(100):
            runs = some_runs(seed, many=7, most=4)
            for k in (0, 1, 2, 4, 20):
                names = ordered(runs)
                wanted = [run for run in names if self.in_closure([other for other in names if other != run], k, run)]
                self.assertEqual(spare_runs(runs, k), tuple(wanted))
                self.assertEqual(spare_runs(runs[::-1] + runs, k), tuple(wanted))
                found += len(wanted)
                left = list(names)
                for run in names[::-1]:
                    others = [other for other in left if other != run]
                    left = others if self.in_closure(others, k, run) else left
                told = lean_lot(runs, k)
                self.assertEqual(told, tuple(left))
                self.assertEqual(lean_lot(runs[::-1] + runs, k), told)
                self.assertEqual(learn(told, k), learn(runs, k))
                self.assertEqual(spare_runs(told, k), ())
        self.assertGreater(found, 100)

    def test_edges(self):
        for k in (0, 1, 20):
            self.assertEqual(spare_runs((), k), ())
            self.assertEqual(lean_lot((), k), ())
            self.assertEqual(spare_runs(("", ""), k), ())
            self.assertEqual(lean_lot(("", ""), k), ("",))
            self.assertEqual(lean_lot(["", ""], k), ("",))
        self.assertEqual(spare_runs(("", "a", "aa", "aaa"), 0), ("", "a", "aa", "aaa"))
        self.assertEqual(lean_lot(("aaa", "a", "aa", ""), 0), ("", "a"))
        self.assertEqual(spare_runs(("aaa", "a", "aa", ""), 4), ())
        self.assertEqual(lean_lot(("aaa", "a", "aa", ""), 4), ("", "a", "aa", "aaa"))
        # a run that is spare beside the others need not be taken out
        self.assertEqual(spare_runs(("ab", "aab", "aaab"), 1), ("ab", "aaab"))
        self.assertEqual(lean_lot(("ab", "aab", "aaab"), 1), ("ab", "aab"))

    def test_as_large_as_allowed(self):
        runs = tuple(x + y for x in "abcdef" for y in "abcdef") + tuple("abcdef") + ("a" * 64, "ab" * 20, "")
        self.assertTrue(len(runs) <= 80 and sum(map(len, runs)) <= 200)
        with without_delay(self):
            for k in (0, 1, 2, 20):
                told = lean_lot(runs, k)
                self.assertEqual(learn(told, k), learn(runs, k))
                self.assertEqual(spare_runs(told, k), ())
                self.assertEqual(spare_runs(runs, k) == (), told == tuple(ordered(runs)))
        many = tuple("a" * (at % 4) + "b" * (at // 4 % 4) + "c" * (at // 16) for at in range(64))
        with without_delay(self):
            self.assertTrue(takes(learn(lean_lot(many, 0), 0), "abcabc"))
            self.assertIsNone(outside(runs_machine(many), learn(lean_lot(many, 1), 1)))


if __name__ == "__main__":
    unittest.main()
