import unittest

from fromruns.classes import is_closed
from fromruns.machines import letters_of, machine_of, runs_machine
from fromruns.parts import ahead, all_beginnings, behind
from tests.reference import all_runs, complaint, has, line, random_web, ring, without_delay

EMPTY = ((), ())
EMPTY_RUN = (((),), (0,))
ALL = (((("a", 0), ("b", 0)),), (0,))


def some_machines():
    machines = [EMPTY, EMPTY_RUN, ALL, line(4), ring(3), runs_machine(("", "ab", "b", "bba"))]
    machines += [machine_of(random_web(seed, size=1 + seed % 5, arrows=8, least=1)) for seed in range(40)]
    return machines


class Parts(unittest.TestCase):
    def check(self, told, wanted):
        self.assertIsNone(complaint(told))
        for run in all_runs("ab", 6):
            self.assertEqual(has(told, run), wanted(run), run)

    def test_behind(self):
        for machine in some_machines():
            for run in ("", "a", "b", "ab", "bab", "aaaa", "c", "abc"):
                self.check(behind(machine, run), lambda w: has(machine, run + w))

    def test_ahead(self):
        for machine in some_machines():
            for run in ("", "a", "b", "ab", "bab", "aaaa", "c", "abc"):
                self.check(ahead(machine, run), lambda w: has(machine, w + run))

    def test_all_beginnings(self):
        for machine in some_machines():
            wanted = {run[:at] for run in all_runs("ab", 11) if has(machine, run) for at in range(len(run) + 1)}
            self.check(all_beginnings(machine), lambda w: w in wanted)

    def test_the_empty_run(self):
        for machine in some_machines():
            self.assertEqual(behind(machine, ""), machine)
            self.assertEqual(ahead(machine, ""), machine)

    def test_runs_that_lead_nowhere(self):
        machine = runs_machine(("ab", "aab"))
        for run in ("b", "aba", "aaa", "z", "az"):
            self.assertEqual(behind(machine, run), EMPTY)
        for run in ("a", "bb", "aaab", "z", "zb"):
            self.assertEqual(ahead(machine, run), EMPTY)

    def test_the_examples(self):
        machine = runs_machine(("ab", "aab", "b"))
        self.assertEqual(behind(machine, "a"), runs_machine(("b", "ab")))
        self.assertEqual(behind(machine, "aab"), EMPTY_RUN)
        self.assertEqual(ahead(machine, "b"), runs_machine(("", "a", "aa")))
        self.assertEqual(ahead(machine, "aab"), EMPTY_RUN)
        self.assertEqual(all_beginnings(machine), runs_machine(("", "a", "b", "aa", "ab", "aab")))

    def test_the_machine_without_states(self):
        for run in ("", "a", "ab" * 32):
            self.assertEqual(behind(EMPTY, run), EMPTY)
            self.assertEqual(ahead(EMPTY, run), EMPTY)
        self.assertEqual(all_beginnings(EMPTY), EMPTY)
        self.assertEqual(all_beginnings(EMPTY_RUN), EMPTY_RUN)

    def test_runs_of_64_letters(self):
        run = "a" * 64
        wheel = tuple((at, letter, (at + 1) % 64) for at in range(64) for letter in "abcdef")
        machine = machine_of((64, wheel, (0,), (0, 3)))
        with without_delay(self):
            self.assertEqual(behind(ring(64), run), ring(64))
            self.assertEqual(ahead(ring(64), run), ring(64))
            self.assertEqual(behind(ring(63, ends=(0, 5)), run), ring(63, ends=(4, 62)))
            self.assertEqual(ahead(ring(63, ends=(0, 5)), run), ring(63, ends=(4, 62)))
            self.assertEqual(behind(line(63), run), EMPTY)
            self.assertEqual(ahead(line(63), run), EMPTY)
            self.assertEqual(behind(line(63), run[1:]), EMPTY_RUN)
            self.assertEqual(ahead(line(63), run[1:]), EMPTY_RUN)
            self.assertEqual(behind(machine, "abcdef" * 10 + "fade"), machine)
            self.assertEqual(ahead(machine, "abcdef" * 10 + "fade"), machine)

    def test_beginnings_of_64_states(self):
        with without_delay(self):
            self.assertEqual(all_beginnings(ring(64)), ring(1))
            self.assertEqual(all_beginnings(line(63)), (line(63)[0], tuple(range(64))))

    def test_parts_of_a_closed_machine_are_closed(self):
        for machine in some_machines():
            for k in range(4):
                if is_closed(machine, k):
                    for run in all_runs(letters_of(machine), 3):
                        self.assertTrue(is_closed(behind(machine, run), k))
                        self.assertTrue(is_closed(ahead(machine, run), k))


if __name__ == "__main__":
    unittest.main()
