import unittest
from itertools import combinations

from fromruns.barring import first_clash
from fromruns.learning import learn
from fromruns.machines import takes
from fromruns.supports import blame, judge_support, support
from tests.closing import closure, slow_web, some_runs
from tests.reference import all_runs, ordered, web_takes, without_delay

LARGE = tuple(x + y for x in "abcdef" for y in "abcdef") + tuple("abcdef") + ("a" * 64, "ab" * 20, "")


def explains(runs, k, run):
    """Whether the closure of the runs has the run."""
    return web_takes(slow_web(tuple(ordered(runs)), k), run)


def first_support(runs, k, run):
    """Point [42], by its words."""
    if not explains(runs, k, run):
        return None
    left = ordered(runs)
    for other in ordered(runs)[::-1]:
        fewer = [told for told in left if told != other]
        if explains(fewer, k, run):
            left = fewer
    return tuple(left)


def is_support(runs, k, run, paper):
    if list(paper) != ordered(paper) or not set(paper) <= set(runs) or not explains(paper, k, run):
        return False
    return not any(explains([told for told in paper if told != left], k, run) for left in paper)


class Support(unittest.TestCase):
    def test_by_its_words(self):
        found = short = 0
        for seed in range(120):
            runs = some_runs(seed, many=7, most=4)
            for k in (0, 1, 2, 4, 20):
                for run in all_runs("ab", 3) + ["abab", "aaaab", "bbbbb"]:
                    wanted = first_support(runs, k, run)
                    told = support(runs, k, run)
                    self.assertEqual(told, wanted)
                    found += wanted is not None
                    short += wanted is not None and len(wanted) < len(set(runs))
                    if wanted is not None:
                        self.assertIs(type(told), tuple)
                        self.assertIs(judge_support(runs, k, run, told), True)
        self.assertGreater(found, 1000)
        self.assertGreater(short, 500)

    def test_the_closure_is_reckoned_rightly_here(self):
        for seed in range(20):
            runs = some_runs(seed, many=4, most=3)
            for k in range(3):
                taken = closure(runs, k, 9)
                self.assertTrue(all(explains(runs, k, run) for run in taken))

    def test_a_run_among_the_runs(self):
        for k in (0, 1, 20):
            self.assertEqual(support(("ab", "b"), k, "b"), ("b",))
            self.assertEqual(support(("",), k, ""), ("",))
        # the runs behind it are taken out first, and what is left explains it without itself
        self.assertEqual(support(("", "a", "aa"), 0, "aa"), ("", "a"))
        self.assertEqual(support(("", "a", "aa"), 3, "aa"), ("aa",))

    def test_edges(self):
        for k in (0, 1, 20):
            self.assertIsNone(support((), k, ""))
            self.assertIsNone(support((), k, "a"))
            self.assertIsNone(support(("a",), k, ""))
            self.assertIsNone(support(("",), k, "a"))
        self.assertEqual(support(("ab", "aab"), 1, "aaaab"), ("ab", "aab"))
        self.assertIsNone(support(("ab", "aab"), 2, "aaaab"))
        # the greatest runs are taken out first
        self.assertEqual(support(("ab", "aab", "aaab"), 1, "a" * 9 + "b"), ("ab", "aab"))

    def test_order_and_duplicates_do_not_matter(self):
        for seed in range(40):
            runs = some_runs(seed)
            for k in (0, 1, 3):
                for run in ("", "ab", "aab", "abab"):
                    told = support(runs, k, run)
                    self.assertEqual(support(runs[::-1] + runs, k, run), told)
                    self.assertEqual(support(list(runs), k, run), told)

    def test_as_large_as_allowed(self):
        self.assertTrue(len(LARGE) <= 80 and sum(map(len, LARGE)) <= 200)
        with without_delay(self):
            for k in (0, 1, 2, 20):
                for run in ("a" * 64, "ab" * 20, "abcdef" * 10, "", "f", "g"):
                    told = support(LARGE, k, run)
                    self.assertEqual(told is not None, takes(learn(LARGE, k), run))
                    if told is not None:
                        self.assertIs(judge_support(LARGE, k, run, told), True)


class JudgeSupport(unittest.TestCase):
    def test_all_tuples_of_some_of_the_runs(self):
        right = 0
        for seed in range(60):
            runs = some_runs(seed, many=5, most=3)
            names = ordered(runs)
            for k in (0, 1, 2):
                for run in ("", "a", "ab", "aab", "bb"):
                    for many in range(len(names) + 1):
                        for paper in combinations(names, many):
                            wanted = is_support(runs, k, run, paper)
                            self.assertIs(judge_support(runs, k, run, paper), wanted)
                            right += wanted
        self.assertGreater(right, 100)

    def test_any_tuples_of_runs(self):
        wrong = 0
        for seed in range(100):
            runs = some_runs(seed, many=6, most=3)
            for k in (0, 1, 2):
                for run in ("", "ab", "aab", "bbb"):
                    told = support(runs, k, run) or ()
                    papers = [told[::-1], told * 2, told + told[-1:], told + ("c",), ("c",) + told, runs, told[1:]]
                    papers += [tuple(ordered(told + (run,))), some_runs(seed + 500), ("",) + told, ()]
                    for paper in papers:
                        wanted = is_support(runs, k, run, paper)
                        self.assertIs(judge_support(runs, k, run, paper), wanted)
                        wrong += not wanted
        self.assertGreater(wrong, 1000)

    def test_another_support_than_the_first_one(self):
        runs = ("ab", "aab", "aaab")
        run = "a" * 7 + "b"
        self.assertEqual(support(runs, 1, run), ("ab", "aab"))
        self.assertIs(judge_support(runs, 1, run, ("aab", "aaab")), True)
        self.assertIs(judge_support(runs, 1, run, ("aaab", "aab")), False)
        self.assertIs(judge_support(runs, 1, run, ("aab", "aab", "aaab")), False)
        self.assertIs(judge_support(runs, 1, run, ("ab", "aab", "aaab")), False)
        self.assertIs(judge_support(runs, 1, run, ("ab",)), False)
        self.assertIs(judge_support(runs, 1, run, ()), False)
        # a run that would explain it, but is not among the runs
        self.assertIs(judge_support(runs, 1, run, (run,)), False)
        self.assertIs(judge_support(runs + (run,), 1, run, (run,)), True)

    def test_edges(self):
        for k in (0, 1, 20):
            self.assertIs(judge_support((), k, "", ()), False)
            self.assertIs(judge_support(("",), k, "", ("",)), True)
            self.assertIs(judge_support(("",), k, "", ("", "")), False)
            self.assertIs(judge_support(["", ""], k, "", ("",)), True)
            self.assertIs(judge_support((), k, "", ("",)), False)

    def test_as_large_as_allowed(self):
        many = tuple(ordered(LARGE))
        with without_delay(self):
            for k in (0, 1, 20):
                self.assertIs(judge_support(LARGE, k, "a", many), False)
                self.assertIs(judge_support(LARGE, k, "c" * 60, many), False)


class Blame(unittest.TestCase):
    def test_by_its_words(self):
        found = 0
        for seed in range(150):
            seen, barred = some_runs(seed), some_runs(seed + 900)
            for k in (0, 1, 2, 20):
                clashes = [run for run in ordered(barred) if explains(seen, k, run)]
                told = blame(seen, barred, k)
                if not clashes:
                    self.assertIsNone(told)
                    continue
                found += 1
                self.assertEqual(told, (clashes[0], first_support(seen, k, clashes[0])))
                self.assertIs(type(told), tuple)
                self.assertEqual(told[0], first_clash(seen, barred, k))
                self.assertEqual(blame(seen[::-1] * 2, barred[::-1] * 2, k), told)
                self.assertEqual(blame(list(seen), list(barred), k), told)
        self.assertGreater(found, 100)

    def test_edges(self):
        for k in (0, 1, 20):
            self.assertIsNone(blame((), (), k))
            self.assertIsNone(blame((), ("", "a"), k))
            self.assertIsNone(blame(("", "a"), (), k))
            self.assertEqual(blame(("", "a"), ("a", ""), k), ("", ("",)))
            self.assertEqual(blame(("b", "a"), ("a",), k), ("a", ("a",)))
        self.assertEqual(blame(("ab", "aab"), ("aaaab", "b"), 1), ("aaaab", ("ab", "aab")))
        self.assertEqual(blame(("ab", "aab"), ("aaaab", "b"), 0), ("b", ("ab", "aab")))
        self.assertIsNone(blame(("ab", "aab"), ("aaaab", "b"), 2))

    def test_as_large_as_allowed(self):
        barred = tuple("a" * at for at in range(3, 18)) + ("bcdefa",) + ("fb",)
        with without_delay(self):
            for k in (0, 1, 2, 20):
                told = blame(LARGE, barred, k)
                self.assertEqual(told is None, first_clash(LARGE, barred, k) is None)
                if told is not None:
                    self.assertIs(judge_support(LARGE, k, *told), True)


if __name__ == "__main__":
    unittest.main()
