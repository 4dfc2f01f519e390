import random
import unittest

from fromruns.apart import MOST_STATES, machine_apart
from fromruns.learning import learn
from fromruns.machines import takes
from tests.closing import apart, some_runs
from tests.reference import complaint, has, line, without_delay


def fitting(runs):
    """The last ones of the runs, with at most 200 letters in all."""
    while sum(map(len, runs)) > 200:
        runs = runs[1:]
    return runs


class Apart(unittest.TestCase):
    def check(self, seen, barred, k):
        told = machine_apart(seen, barred, k)
        self.assertIsNone(complaint(told))
        self.assertTrue(apart(told, k, seen, barred))
        self.assertLessEqual(len(told[0]), 64)
        self.assertTrue({letter for row in told[0] for letter, _ in row} <= set("".join(seen)))
        self.assertEqual(machine_apart(seen[::-1] + seen, barred[::-1] * 2, k), told)
        return told

    def test_the_closure_if_it_has_few_states(self):
        for seed in range(60):
            seen = some_runs(seed, many=6, most=7)
            for k in (0, 1, 2, 20):
                barred = tuple(run for run in some_runs(seed + 50, many=6) if not has(learn(seen, k), run))
                self.assertEqual(self.check(seen, barred, k), learn(seen, k))
        self.assertEqual(MOST_STATES, 64)
        self.assertEqual(self.check(("a" * 63,), ("a",), 0), line(63))

    def test_one_run_of_64_letters(self):
        self.assertEqual(len(learn(("a" * 64,), 0)[0]), 65)
        for k in (0, 1, 2, 20):
            for barred in ((), ("",), ("a" * 63,), ("b",), tuple("a" * at for at in (1, 2, 3, 5, 7, 11, 13, 17, 19, 23))):
                self.check(("a" * 64,), barred, k)

    def test_many_states(self):
        large = 0
        for seed in range(8):
            seen = fitting(some_runs(seed, many=70, most=64 - 4 * seed, letters="ab" if seed % 2 else "abcdef"))
            for k in (0, 1, 3, 20):
                closure = learn(seen, k)
                large += len(closure[0]) > 64
                for barred in (
                    some_runs(seed + 70, many=70, most=3, letters="abcdef"),
                    tuple(run[:-1] for run in seen if run),
                    tuple(run + "a" for run in seen),
                ):
                    barred = fitting(tuple(run for run in barred if not takes(closure, run)))
                    with without_delay(self):
                        self.check(seen, barred, k)
        self.assertGreater(large, 15)

    def test_it_is_right_where_no_small_one_is_found(self):
        """Only for 20 do these not clash, and then nothing else can be put together."""
        pick = random.Random(5)
        for _ in range(3):
            v = "".join(pick.choice("ab") for _ in range(19))
            filling = tuple("".join(pick.choice("abcdef") for _ in range(20)) for _ in range(6))
            seen, barred = ("a" + v, v, "a" + v + "c", *filling), (v + "c",)
            with without_delay(self):
                told = machine_apart(seen, barred, 20)
            self.assertIsNone(complaint(told))
            self.assertTrue(apart(told, 20, seen, barred))


if __name__ == "__main__":
    unittest.main()
