import unittest

from fromruns.corners import fourth_run, judge_fault, three_runs
from fromruns.machines import machine_of, runs_machine
from tests.reference import all_runs, has, ring, without_delay

EMPTY = ((), ())


class Runs(unittest.TestCase):
    def test_three_and_fourth(self):
        corner = ("ab", "c", "dd", "e", "fa")
        self.assertEqual(three_runs(corner), ("abdde", "cdde", "abddfa"))
        self.assertEqual(fourth_run(corner), "cddfa")

    def test_empty_parts(self):
        self.assertEqual(three_runs(("",) * 5), ("", "", ""))
        self.assertEqual(fourth_run(("",) * 5), "")
        for at in range(5):
            parts = tuple("uzvwx"[at] if at == there else "" for there in range(5))
            u, z, v, w, x = parts
            self.assertEqual(three_runs(parts), (u + v + w, z + v + w, u + v + x))
            self.assertEqual(fourth_run(parts), z + v + x)

    def test_parts_of_90_letters(self):
        u, z, v, w, x = (letter * 90 for letter in "abcde")
        self.assertEqual(three_runs((u, z, v, w, x)), (u + v + w, z + v + w, u + v + x))
        self.assertEqual(fourth_run((u, z, v, w, x)), z + v + x)


class JudgeFault(unittest.TestCase):
    def test_the_machine_of_the_examples(self):
        machine = runs_machine(("ab", "aab"))
        self.assertIs(judge_fault(machine, 0, ("a", "aa", "", "b", "ab")), True)
        self.assertIs(judge_fault(machine, 1, ("", "a", "a", "b", "ab")), True)
        # the fourth run is taken
        self.assertIs(judge_fault(machine, 1, ("a", "", "a", "b", "b")), False)
        # the middle part has another number of letters
        self.assertIs(judge_fault(machine, 0, ("", "a", "a", "b", "ab")), False)
        self.assertIs(judge_fault(machine, 2, ("", "a", "a", "b", "ab")), False)
        self.assertIs(judge_fault(machine, 20, ("a", "aa", "", "b", "ab")), False)

    def test_each_of_the_three_runs_has_to_be_taken(self):
        u, z, v, w, x = ("a", "b", "c", "d", "e")
        runs = (u + v + w, z + v + w, u + v + x)
        self.assertIs(judge_fault(runs_machine(runs), 1, (u, z, v, w, x)), True)
        for at in range(3):
            self.assertIs(judge_fault(runs_machine(runs[:at] + runs[at + 1:]), 1, (u, z, v, w, x)), False)
        self.assertIs(judge_fault(runs_machine((*runs, z + v + x)), 1, (u, z, v, w, x)), False)

    def test_empty_parts_and_the_machine_without_states(self):
        self.assertIs(judge_fault(EMPTY, 0, ("",) * 5), False)
        self.assertIs(judge_fault(runs_machine(("",)), 0, ("",) * 5), False)
        self.assertIs(judge_fault(runs_machine(("", "a")), 0, ("", "a", "", "", "a")), True)

    def test_parts_of_90_letters(self):
        loops = [(at, "a", at) for at in range(4)] + [(0, "b", 1), (1, "c", 2), (0, "d", 3), (3, "c", 2), (1, "f", 2)]
        machine = machine_of((4, tuple(loops), (0,), (2,)))
        u, z, w, x = "b" + "a" * 89, "d" + "a" * 89, "c" + "a" * 89, "f" + "a" * 89
        with without_delay(self):
            self.assertIs(judge_fault(machine, 20, (u, z, "a" * 20, w, x)), True)
            self.assertIs(judge_fault(machine, 90, (u, z, "a" * 90, w, x)), True)
            self.assertIs(judge_fault(machine, 20, (u, z, "a" * 90, w, x)), False)
            self.assertIs(judge_fault(machine, 20, (z, u, "a" * 20, w, x)), False)
            self.assertIs(judge_fault(ring(64), 20, ("a" * 44, "a" * 90, "a" * 20, "a" * 64, "a" * 64)), False)

    def test_all_short_corners(self):
        short = all_runs("ab", 1)
        for runs in (("ab", "aab"), ("", "ab", "b"), ("a", "aa"), ("aba", "ba", "ab")):
            machine = runs_machine(runs)
            for k in (0, 1):
                for u in short:
                    for z in short:
                        for v in short:
                            for w in short:
                                for x in short:
                                    taken = [has(machine, run) for run in (u + v + w, z + v + w, u + v + x, z + v + x)]
                                    wanted = len(v) == k and taken == [True, True, True, False]
                                    self.assertIs(judge_fault(machine, k, (u, z, v, w, x)), wanted)


if __name__ == "__main__":
    unittest.main()
