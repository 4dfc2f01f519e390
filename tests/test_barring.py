import unittest

from fromruns.barring import first_clash, kind_of, least_fit
from fromruns.errors import Clash, FromrunsError
from fromruns.learning import leads, learn
from fromruns.machines import machine_of, runs_machine
from tests.closing import closure, is_closed_slowly, slow_web, some_runs
from tests.reference import has, language, line, ordered, random_web, ring, without_delay

EMPTY = ((), ())
EMPTY_RUN = (((),), (0,))
ALL = (((("a", 0), ("b", 0)),), (0,))


def slowly(runs, k):
    return machine_of(slow_web(runs, k))


class FirstClash(unittest.TestCase):
    def test_by_its_words(self):
        for seed in range(200):
            seen, barred = some_runs(seed), some_runs(seed + 900, many=8)
            for k in (0, 1, 2, 20):
                machine = slowly(seen, k)
                clashes = [run for run in ordered(barred) if has(machine, run)]
                wanted = clashes[0] if clashes else None
                self.assertEqual(first_clash(seen, barred, k), wanted)
                self.assertEqual(first_clash(seen[::-1] + seen, barred[::-1] + barred, k), wanted)

    def test_edges(self):
        for k in (0, 1, 20):
            self.assertIsNone(first_clash((), (), k))
            self.assertIsNone(first_clash((), ("", "a"), k))
            self.assertIsNone(first_clash(("", "a"), (), k))
            self.assertEqual(first_clash(("ab",), ("ab",), k), "ab")
            self.assertEqual(first_clash(["", "b"], ["b", "a", ""], k), "")
        self.assertEqual(first_clash(("", "a"), ("aaa", "aa", "b"), 0), "aa")
        self.assertIsNone(first_clash(("", "a"), ("aaa", "aa", "b"), 1))
        self.assertEqual(first_clash(("ab", "aab"), ("b", "aaab"), 1), "aaab")
        self.assertEqual(first_clash(("ab", "aab"), ("b", "aaab"), 0), "b")

    def test_as_large_as_allowed(self):
        seen = tuple("a" * at + "b" for at in range(18)) + ("c",) * 20
        barred = tuple("a" * at for at in range(19)) + ("a" * 20 + "b",)
        with without_delay(self):
            self.assertIsNone(first_clash(seen, barred[:-1], 0))
            self.assertEqual(first_clash(seen, barred, 0), "a" * 20 + "b")
            self.assertIsNone(first_clash(seen, barred, 20))


class LeastFit(unittest.TestCase):
    def test_the_example_of_the_document(self):
        self.assertEqual(least_fit(runs_machine(("ab", "aab")), ("b", "aaab")), 2)

    def test_of_runs(self):
        found = {}
        for seed in range(250):
            seen, barred = some_runs(seed, many=5, most=5), some_runs(seed + 900, many=4, most=6)
            told = least_fit(runs_machine(seen), barred)
            if set(seen) & set(barred):
                wanted = None
            else:
                machines = [slowly(seen, k) for k in range(8)]
                wanted = min(k for k in range(8) if not any(has(machines[k], run) for run in barred))
            self.assertEqual(told, wanted)
            self.assertEqual(least_fit(runs_machine(seen), barred[::-1] + barred), wanted)
            self.assertLessEqual(told or 0, max(map(len, barred), default=-1) + 1)
            found[told] = True
        self.assertTrue({None, 0, 1, 2, 3} <= set(found))

    def test_of_machines(self):
        for seed in range(60):
            machine = machine_of(random_web(seed, size=3, arrows=4, least=1))
            closed = [closure(language(machine, "ab", 6), k, 6) for k in range(4)]
            for barred in (some_runs(seed, many=3, most=2), some_runs(seed + 100, many=2, most=2)):
                told = least_fit(machine, barred)
                if any(has(machine, run) for run in barred):
                    self.assertIsNone(told)
                else:
                    self.assertFalse(set(closed[told]) & set(barred))
                    self.assertTrue(all(set(closed[k]) & set(barred) for k in range(told)))

    def test_edges(self):
        for machine in (EMPTY, EMPTY_RUN, ALL, line(3), ring(3), ring(3, ends=(0, 1))):
            self.assertEqual(least_fit(machine, ()), 0)
        self.assertEqual(least_fit(EMPTY, ("", "a")), 0)
        self.assertIsNone(least_fit(EMPTY_RUN, ("a", "")))
        self.assertIsNone(least_fit(ALL, ["a", "c"]))
        self.assertEqual(least_fit(ALL, ("c", "ac")), 0)
        self.assertEqual(least_fit(ring(2), ("a" * 15,)), 0)

    def test_one_more_than_the_letters_of_the_longest_one(self):
        for many in range(1, 16):
            machine = runs_machine(("a" * many, "b" + "a" * many, "b"))
            told = least_fit(machine, ("",))
            self.assertEqual(told, 1)
            # z v x with v of as many letters as the barred run, which is v itself
            machine = runs_machine(("a" * many + "b", "c" + "a" * many + "b", "c" + "a" * many))
            self.assertEqual(least_fit(machine, ("a" * many,)), many + 1)
            self.assertEqual(least_fit(machine, ("a" * many, "b", "c")), many + 1)

    def test_as_large_as_allowed(self):
        with without_delay(self):
            self.assertEqual(least_fit(ring(64), tuple("a" * at for at in range(1, 16))), 0)
            machine = ring(64, ends=(0, 1))
            self.assertLessEqual(len(leads(machine, 16)), 100)
            self.assertEqual(least_fit(machine, ("a" * 15,)), 16)
            self.assertEqual(least_fit(machine, ("a" * 14, "b")), 15)
            machine = ring(64, ends=(0, 2))
            self.assertEqual(least_fit(machine, ("a" * 15, "a" * 14, "a" * 12)), 15)
            self.assertEqual(least_fit(machine, ("a" * 15, "a" * 13, "a")), 0)
            self.assertIsNone(least_fit(machine, ("a", "aa")))


class KindOf(unittest.TestCase):
    def test_by_its_words(self):
        kinds = {"sure": 0, "never": 0, "open": 0, "clash": 0}
        for seed in range(250):
            seen, barred, runs = some_runs(seed, many=4), some_runs(seed + 900, many=3), some_runs(seed + 300)
            for k in (0, 1, 2, 20):
                machine = slowly(seen, k)
                clashes = [run for run in ordered(barred) if has(machine, run)]
                for run in runs + seen + barred:
                    if clashes:
                        with self.assertRaises(Clash) as caught:
                            kind_of(seen, barred, k, run)
                        self.assertEqual(caught.exception.run, clashes[0])
                        self.assertIsInstance(caught.exception, FromrunsError)
                        kinds["clash"] += 1
                        continue
                    wanted = self.wanted(machine, seen, barred, k, run)
                    self.assertEqual(kind_of(seen, barred, k, run), wanted)
                    self.assertEqual(kind_of(seen[::-1] + seen, list(barred) * 2, k, run), wanted)
                    kinds[wanted] += 1
        self.assertGreater(min(kinds.values()), 100)

    def wanted(self, machine, seen, barred, k, run):
        if has(machine, run):
            return "sure"
        more = slowly(seen + (run,), k)
        return "never" if any(has(more, told) for told in barred) else "open"

    def test_by_closed_machines(self):
        """A sure run is in all k-closed languages that have the seen runs and no barred ones, a run never in none."""
        machines = [machine_of(random_web(seed, size=4, arrows=7, least=1)) for seed in range(150)]
        found = 0
        for k in (0, 1, 2):
            closed = [machine for machine in machines if is_closed_slowly(machine, k)]
            for seed in range(40):
                seen, barred = some_runs(seed, many=2, most=3), some_runs(seed + 60, many=2, most=3)
                if first_clash(seen, barred, k) is not None:
                    continue
                fit = [m for m in closed if all(has(m, r) for r in seen) and not any(has(m, r) for r in barred)]
                for run in ("", "a", "b", "ab", "ba", "aab", "abab"):
                    told = kind_of(seen, barred, k, run)
                    found += len(fit)
                    if told != "open":
                        self.assertTrue(all(has(machine, run) == (told == "sure") for machine in fit))
        self.assertGreater(found, 1000)

    def test_edges(self):
        self.assertEqual(kind_of(("ab", "aab"), ("b",), 1, "aaab"), "sure")
        self.assertEqual(kind_of(("ab", "aab"), ("b",), 1, "b"), "never")
        self.assertEqual(kind_of(("ab", "aab"), ("b",), 1, "bb"), "open")
        # with ab and aab, and abb beside them, b is in each 0-closed language
        self.assertEqual(kind_of(("ab",), ("b",), 0, "aab"), "never")
        self.assertEqual(kind_of(("ab",), ("b",), 1, "aab"), "open")
        for k in (0, 1, 20):
            self.assertEqual(kind_of((), (), k, ""), "open")
            self.assertEqual(kind_of((), ("",), k, ""), "never")
            self.assertEqual(kind_of(("",), (), k, ""), "sure")
            self.assertEqual(kind_of((), (), k, "ab"), "open")
            with self.assertRaises(Clash) as caught:
                kind_of(("", "a"), ("a", ""), k, "a")
            self.assertEqual(caught.exception.run, "")
        with self.assertRaises(Clash) as caught:
            kind_of(("", "a"), ("b", "aaa", "aa"), 0, "")
        self.assertEqual(caught.exception.run, "aa")

    def test_as_large_as_allowed(self):
        seen = tuple("a" * at + "b" for at in range(15)) + ("c",) * 20
        barred = tuple("a" * at for at in range(1, 15)) + ("d",) * 60
        with without_delay(self):
            self.assertEqual(kind_of(seen, barred, 0, "a" * 63 + "b"), "sure")
            self.assertEqual(kind_of(seen, barred, 0, "a" * 64), "never")
            self.assertEqual(kind_of(seen, barred, 0, "e" * 64), "open")
            self.assertEqual(kind_of(seen, barred, 20, "a" * 63 + "b"), "open")
        self.assertTrue(has(learn(seen, 0), "a" * 63 + "b"))


if __name__ == "__main__":
    unittest.main()
