import random
import unittest

from fromruns.apart import MOST_STATES, machine_apart
from fromruns.learning import learn
from fromruns.machines import takes
from tests.closing import apart, some_runs
from tests.reference import complaint, has, line, without_delay


def fitting(runs):
    """The last ones of the runs, with at most 200 letters in all."""
    while sum(map(len, runs)) > 200:
        runs = runs[1:]
    return runs


class Apart(unittest.TestCase):
    def check(self, seen, barred, k):
        told = machine_apart(seen, barred, k)
        self.assertIsNone(complaint(told))
        self.assertTrue(apart(told, k, seen, barred))
        self.assertLessEqual(len(told[0]), 64)
        self.assertTrue({letter for row in told[0] for letter, _ in row} <= set("".join(seen)))
        self.assertEqual(machine_apart(seen[::-1] + seen, barred[::-1] * 2, k), told)
        return told

    def test_the_closure_if_it_has_few_states(self):
        for seed in range(60):
            seen = some_runs(seed, many=6, most=7)
            for k in (0, 1, 2, 20):
                barred = tuple(run for run in some_runs(seed + 50, many=6) if not has(learn(seen, k), run))
                self.assertEqual(self.check(seen, barred, k), learn(seen, k))
        self.assertEqual(MOST_STATES, 64)
        self.assertEqual(self.check(("a" * 63,), ("a",), 0), line(63))

    def test_one_run_of_64_letters(self):
        self.assertEqual(len(learn(("a" * 64,), 0)[0]), 65)
        for k in (0, 1, 2, 20):
            for barred in ((), ("",), ("a" * 63,), ("b",), tuple("a" * at for at in (1, 2, 3, 5, 7, 11, 13, 17, 19, 23))):
                self.check(("a" * 64,), barred, k)

    def test_many_states(self):
        large = 0
        for seed in range(8):
            seen = fitting(some_runs(seed, many=70, most=64 - 4 * seed, letters="ab" if seed % 2 else "abcdef"))
            for k in (0, 1, 3, 20):
                closure = learn(seen, k)
                large += len(closure[0]) > 64
                for barred in (
                    some_runs(seed + 70, many=70, most=3, letters="abcdef"),
                    tuple(run[:-1] for run in seen if run),
                    tuple(run + "a" for run in seen),
                ):
                    barred = fitting(tuple(run for run in barred if not takes(closure, run)))
                    with without_delay(self):
                        self.check(seen, barred, k)
        self.assertGreater(large, 15)

    def test_what_only_the_last_k_letters_tell_apart(self):
        """The seen runs and the barred one clash for each smaller number, so little else can be put together."""
        large = 0
        for seed in range(40):
            pick = random.Random(seed)
            k = pick.choice((15, 19, 20))
            v = "".join(pick.choice("ab" if seed % 2 else "abcdef") for _ in range(k - 1))
            seen, barred = pick.choice((
                (("a" + v, v, "a" + v + "c"), (v + "c",)),
                (("a" + v, "b" + v, "a" + v + "c"), ("b" + v + "c",)),
                (("a" + v + "a", v + "a", "a" + v + "b"), (v + "b",)),
                (("a" + v, v, "a" + v + "c"), (v + "c", *[v[:at] + "d" for at in range(0, 15, 3)])),
            ))
            many = pick.choice((6, 12, 20, 40))
            filling = ["".join(pick.choice("abcdef"[:2 + seed % 5]) for _ in range(many)) for _ in range(130 // many)]
            seen = fitting((*filling, *seen))
            if has(learn(seen, k), barred[0]):
                continue
            for fewer in range(k - 1):
                self.assertTrue(has(learn(seen, fewer), barred[0]))
            large += len(learn(seen, k)[0]) > 64
            with without_delay(self):
                self.check(seen, barred, k)
        self.assertGreater(large, 25)


if __name__ == "__main__":
    unittest.main()
