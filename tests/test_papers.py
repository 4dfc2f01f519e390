import random
import unittest

from fromruns.barring import kind_of
from fromruns.errors import Clash, FromrunsError
from fromruns.learning import close, learn
from fromruns.machines import machine_of, runs_machine
from fromruns.papers import barring_paper, judge_barring, judge_never_run, judge_open, judge_sure, kind_paper
from tests.closing import apart, derives, slow_web, some_runs, starts
from tests.reference import all_runs, complaint, has, line, ordered, random_web, ring, without_delay
from tests.test_merging import LARGE

EMPTY = ((), ())
EMPTY_RUN = (((),), (0,))
ALL = (((("a", 0), ("b", 0)),), (0,))


def slowly(runs, k):
    return machine_of(slow_web(runs, k))


def letters_in(machine):
    return {letter for row in machine[0] for letter, _ in row}


class Barring(unittest.TestCase):
    def check(self, runs, k, run):
        told = barring_paper(runs, k, run)
        if has(slowly(runs, k), run):
            self.assertIsNone(told)
            return
        self.assertIsNone(complaint(told))
        self.assertTrue(apart(told, k, runs, (run,)))
        self.assertLessEqual(len(told[0]), 64)
        self.assertTrue(letters_in(told) <= set("".join(runs) + run))
        self.assertIs(judge_barring(runs, k, run, told), True)
        self.assertEqual(barring_paper(runs[::-1] + runs, k, run), told)
        self.assertEqual(barring_paper(list(runs), k, run), told)

    def test_small_ones(self):
        for seed in range(80):
            runs = some_runs(seed, many=6, most=5)
            for k in (0, 1, 2, 5, 20):
                for run in all_runs("ab", 3) + list(runs) + ["c", "abc"]:
                    self.check(runs, k, run)

    def test_edges(self):
        for k in (0, 1, 20):
            self.check((), k, "")
            self.check((), k, "ab")
            self.assertIsNone(barring_paper(("",), k, ""))
            self.check(("",), k, "a")
            self.check(("ab", "b"), k, "")
            self.assertIsNone(barring_paper(("ab", "b"), k, "b"))
        self.assertIsNone(barring_paper(("ab", "aab"), 1, "aaab"))
        self.check(("ab", "aab"), 2, "aaab")

    def test_as_large_as_allowed(self):
        for runs in LARGE + [("ab" * 30, "ba" * 30, "abb" * 20), ("a" * 64, "b" * 64, "ab" * 32), ("a" * 64,)]:
            for k in (0, 1, 20):
                with without_delay(self):
                    for run in ("", "a" * 63, "b" * 64, "ab", "ab" * 31, "cab"):
                        self.check(runs, k, run)


class JudgeBarring(unittest.TestCase):
    def test_by_its_words(self):
        machines = [EMPTY, EMPTY_RUN, ALL, line(2), ring(2), ring(3, ends=(0, 1)), runs_machine(("ab", "aab"))]
        machines += [machine_of(random_web(seed, size=4, arrows=7, least=1)) for seed in range(120)]
        right = 0
        for seed, machine in enumerate(machines):
            for k in range(3):
                for runs in ((), some_runs(seed, many=2, most=3), some_runs(seed + 300, many=1, most=2)):
                    for run in ("", "a", "ab", "bb", "c"):
                        wanted = apart(machine, k, runs, (run,))
                        self.assertIs(judge_barring(runs, k, run, machine), wanted)
                        right += wanted
        self.assertGreater(right, 200)

    def test_each_condition(self):
        runs = ("ab", "aab")
        good = learn(runs, 2)
        self.assertIs(judge_barring(runs, 2, "aaab", good), True)
        self.assertIs(judge_barring(runs, 20, "aaab", good), True)
        # it is not closed for 1, it takes the run, it misses a run
        self.assertIs(judge_barring(runs, 1, "aaab", good), False)
        self.assertIs(judge_barring(runs, 2, "ab", good), False)
        self.assertIs(judge_barring(runs, 2, "aab", good), False)
        self.assertIs(judge_barring(runs + ("b",), 2, "aaab", good), False)
        self.assertIs(judge_barring(["ab", "ab"], 2, "aaab", good), True)
        for k in (0, 1, 20):
            self.assertIs(judge_barring((), k, "", EMPTY), True)
            self.assertIs(judge_barring((), k, "", EMPTY_RUN), False)
            self.assertIs(judge_barring(("",), k, "a", EMPTY_RUN), True)
            self.assertIs(judge_barring(("",), k, "a", EMPTY), False)
            self.assertIs(judge_barring((), k, "a", ring(4, ends=(0, 2, 3))), False)

    def test_64_states(self):
        with without_delay(self):
            self.assertIs(judge_barring(("a" * 64, ""), 0, "a" * 63, ring(64)), True)
            self.assertIs(judge_barring(("a" * 64, ""), 20, "a" * 64, ring(64)), False)
            self.assertIs(judge_barring(("a" * 64, ""), 20, "a" * 63, ring(64, ends=(0, 1))), False)


class KindPaper(unittest.TestCase):
    def check(self, seen, barred, k, run):
        machine = slowly(seen, k)
        clashes = [told for told in ordered(barred) if has(machine, told)]
        if clashes:
            with self.assertRaises(Clash) as caught:
                kind_paper(seen, barred, k, run)
            self.assertEqual(caught.exception.run, clashes[0])
            self.assertIsInstance(caught.exception, FromrunsError)
            return "clash"
        told = kind_paper(seen, barred, k, run)
        self.assertIs(type(told), tuple)
        kind, paper = told
        self.assertEqual(kind, kind_of(seen, barred, k, run))
        self.assertIs(type(paper), tuple)
        more = seen + (run,)
        if kind == "sure":
            self.assertTrue(derives(seen, k, paper, run))
            self.check_lines(seen, paper, run)
        elif kind == "never":
            self.assertIn(paper[-1][0], barred)
            self.assertTrue(derives(more, k, paper, paper[-1][0]))
            self.check_lines(more, paper, paper[-1][0])
        else:
            self.assertTrue(apart(paper[0], k, seen, barred + (run,)))
            self.assertTrue(apart(paper[1], k, more, barred))
            for machine in paper:
                self.assertIsNone(complaint(machine))
                self.assertLessEqual(len(machine[0]), 64)
                self.assertTrue(letters_in(machine) <= set("".join(more)))
        self.check_judges(seen, barred, k, run, kind, paper)
        self.assertEqual(kind_paper(seen[::-1] + seen, barred[::-1] * 2, k, run), told)
        self.assertEqual(kind_paper(list(seen), list(barred), k, run), told)
        return kind

    def check_lines(self, runs, lines, run):
        many = len(starts(runs))
        self.assertLessEqual(len(lines), many * many + len(run) + 1)
        self.assertLessEqual(max(len(made) for made, _ in lines), many + 130)

    def check_judges(self, seen, barred, k, run, kind, paper):
        """A run has papers of one sort alone."""
        if kind == "open":
            self.assertIs(judge_open(seen, barred, k, run, paper), True)
            self.assertIs(judge_open(seen, barred, k, run, paper[::-1]), False)
        else:
            self.assertIs(judge_sure(seen, k, run, paper), kind == "sure")
            self.assertIs(judge_never_run(seen, barred, k, run, paper), kind == "never")

    def test_small_ones(self):
        kinds = {"sure": 0, "never": 0, "open": 0, "clash": 0}
        for seed in range(150):
            seen, barred = some_runs(seed, many=4, most=4), some_runs(seed + 900, many=3, most=4)
            for k in (0, 1, 2, 20):
                for run in some_runs(seed + 300) + seen + barred:
                    kinds[self.check(seen, barred, k, run)] += 1
        self.assertGreater(min(kinds.values()), 100)

    def test_edges(self):
        for k in (0, 1, 20):
            self.assertEqual(self.check((), (), k, ""), "open")
            self.assertEqual(self.check((), ("",), k, ""), "never")
            self.assertEqual(self.check(("",), (), k, ""), "sure")
            self.assertEqual(self.check((), (), k, "ab"), "open")
            self.assertEqual(self.check(("",), ("a", ""), k, "a"), "clash")
            self.assertEqual(self.check((), ("ab", "b"), k, "ab"), "never")
        self.assertEqual(self.check(("ab", "aab"), ("b",), 1, "aaab"), "sure")
        self.assertEqual(self.check(("ab",), ("b",), 0, "aab"), "never")
        self.assertEqual(self.check(("ab",), ("b",), 1, "aab"), "open")
        self.assertEqual(self.check(("", "a"), ("aa",), 0, "b"), "clash")

    def test_as_large_as_allowed(self):
        for runs in LARGE:
            for k in (0, 1, 20):
                machine = learn(runs[:-1], k)
                some = ("a" * 5, "b", "ba", "abab" * 10, "c" * 15, "ff", runs[0][:-1])
                barred = tuple(run for run in some if not has(machine, run))
                with without_delay(self):
                    for run in (runs[-1], "a" * 30, "ba", runs[0][1:], runs[0]):
                        if sum(map(len, runs[:-1])) + len(run) <= 140:
                            self.check(runs[:-1], barred, k, run)


class JudgeLines(unittest.TestCase):
    def test_sure(self):
        seen = ("ab", "aab")
        lines = (("ab", ()), ("aab", ()), ("aaab", (0, 1, 1, 1, 2)))
        self.assertIs(judge_sure(seen, 1, "aaab", lines), True)
        self.assertIs(judge_sure(list(seen), 1, "aaab", lines), True)
        self.assertIs(judge_sure(seen, 2, "aaab", lines), False)
        self.assertIs(judge_sure(seen, 1, "aab", lines), False)
        self.assertIs(judge_sure(seen, 1, "aab", lines[:2]), True)
        self.assertIs(judge_sure(seen[:1], 1, "aaab", lines), False)
        self.assertIs(judge_sure(seen, 1, "aaab", ()), False)
        self.assertIs(judge_sure(seen, 1, "aaab", (("aaab", ()),)), False)
        self.assertIs(judge_sure(seen + ("aaab",), 1, "aaab", (("aaab", ()),)), True)
        self.assertIs(judge_sure((), 0, "", ()), False)

    def test_never(self):
        seen, barred = ("ab",), ("aaaab", "aaab", "b")
        lines = (("ab", ()), ("aab", ()), ("aaab", (0, 1, 1, 1, 2)))
        self.assertIs(judge_never_run(seen, barred, 1, "aab", lines), True)
        self.assertIs(judge_never_run(list(seen), list(barred), 1, "aab", lines), True)
        self.assertIs(judge_never_run(seen, barred, 2, "aab", lines), False)
        # the run beside the seen ones is another one, the last line is not barred, a barred one is not the last line
        self.assertIs(judge_never_run(seen, barred, 1, "ab", lines), False)
        self.assertIs(judge_never_run(seen, barred, 1, "aaab", lines), False)
        self.assertIs(judge_never_run(seen, ("aaaab", "b"), 1, "aab", lines), False)
        self.assertIs(judge_never_run(seen, (), 1, "aab", lines), False)
        self.assertIs(judge_never_run(seen, barred, 1, "aab", lines + (("ab", ()),)), False)
        self.assertIs(judge_never_run(seen, barred, 1, "aab", lines[:2]), False)
        self.assertIs(judge_never_run(seen, barred, 1, "aab", ()), False)
        self.assertIs(judge_never_run((), ("",), 0, "", ()), False)
        self.assertIs(judge_never_run((), ("",), 0, "", (("", ()),)), True)
        self.assertIs(judge_never_run((), (), 0, "", (("", ()),)), False)
        # the barred runs are no beginning of a derivation
        self.assertIs(judge_never_run(seen, barred, 1, "aab", (("aaab", ()),)), False)
        self.assertIs(judge_never_run(seen, barred, 1, "aaab", (("aaab", ()),)), True)

    def test_also_if_seen_and_barred_runs_clash(self):
        self.assertIs(judge_never_run(("ab",), ("ab",), 1, "b", (("ab", ()),)), True)
        self.assertIs(judge_sure(("ab",), 1, "ab", (("ab", ()),)), True)
        self.assertIs(judge_never_run(("", "a"), ("aa",), 0, "", (("", ()), ("a", ()), ("aa", (0, 1, 1, 0, 1)))), True)

    def test_any_lines_are_judged_by_their_words(self):
        right = 0
        for seed in range(900):
            pick = random.Random(seed)
            seen, barred = some_runs(seed, many=3, most=4), some_runs(seed + 50, many=4, most=4)
            k = pick.randrange(3)
            run = pick.choice(all_runs("ab", 3))
            try:
                kind, paper = kind_paper(seen, barred, k, run)
            except Clash:
                paper = tuple((told, ()) for told in seen + barred[:1])
                kind = "clash"
            if kind == "open":
                continue
            lines = [list(row) for row in paper]
            if lines and pick.random() < 0.6:
                row = pick.choice(lines)
                if row[1]:
                    reason = list(row[1])
                    reason[pick.randrange(5)] += pick.choice((-1, 1))
                    row[1] = tuple(reason)
                else:
                    row[0] = pick.choice(all_runs("ab", 3))
            lines = tuple(tuple(row) for row in lines)
            self.assertIs(judge_sure(seen, k, run, lines), derives(seen, k, lines, run))
            wanted = any(derives(seen + (run,), k, lines, told) for told in barred)
            self.assertIs(judge_never_run(seen, barred, k, run, lines), wanted)
            right += wanted
        self.assertGreater(right, 40)


class JudgeOpen(unittest.TestCase):
    def test_each_condition(self):
        seen, barred, run = ("ab",), ("b",), "aab"
        first, second = learn(seen, 1), learn(seen + (run,), 1)

        def judged(*paper, seen=seen, barred=barred, k=1, run=run):
            wanted = apart(paper[0], k, seen, barred + (run,)) and apart(paper[1], k, seen + (run,), barred)
            self.assertIs(judge_open(seen, barred, k, run, paper), wanted)
            return wanted

        self.assertTrue(judged(first, second))
        self.assertFalse(judged(second, first))
        self.assertFalse(judged(first, first))
        self.assertFalse(judged(second, second))
        self.assertFalse(judged(EMPTY, second))
        self.assertFalse(judged(first, EMPTY))
        self.assertFalse(judged(runs_machine(("ab", "b")), second))
        self.assertFalse(judged(first, learn(("ab", "aab", "b"), 1)))
        # the second one is not closed, or not the first one
        self.assertFalse(judged(first, runs_machine(("ab", "aab"))))
        self.assertTrue(judged(first, runs_machine(("ab", "aab")), k=2))
        self.assertFalse(judged(runs_machine(("ab", "aaab")), second))
        self.assertTrue(judged(runs_machine(("ab", "aaab")), second, k=3))
        self.assertFalse(judged(first, second, seen=("ab", "a")))
        self.assertFalse(judged(first, second, barred=("b", "ab")))
        self.assertFalse(judged(first, second, barred=("b", "aaab")))
        self.assertTrue(judged(first, second, barred=()))
        self.assertFalse(judged(first, second, run="ab"))
        self.assertTrue(judged(first, second, run="aaaab"))
        self.assertTrue(judged(EMPTY, EMPTY_RUN, seen=(), barred=(), run=""))
        self.assertTrue(judged(EMPTY, ALL, seen=(), barred=("c",), run="", k=0))
        self.assertFalse(judged(EMPTY, ALL, seen=(), barred=("", "c"), run="a", k=0))
        self.assertFalse(judged(EMPTY, EMPTY, seen=(), barred=(), run=""))

    def test_by_its_words(self):
        machines = [EMPTY, EMPTY_RUN, ALL, line(2), ring(2), ring(3, ends=(0, 1)), runs_machine(("ab", "aab"))]
        machines += [machine_of(random_web(seed, size=3, arrows=5, least=1)) for seed in range(40)]
        machines += [close(machine, 1) for machine in machines]
        pick = random.Random(3)
        right = 0
        for seed in range(4000):
            seen, barred = some_runs(seed, many=1, most=2), some_runs(seed + 50, many=1, most=2)
            paper = (pick.choice(machines), pick.choice(machines))
            run, k = pick.choice(all_runs("ab", 2)), pick.randrange(3)
            wanted = apart(paper[0], k, seen, barred + (run,)) and apart(paper[1], k, seen + (run,), barred)
            self.assertIs(judge_open(seen, barred, k, run, paper), wanted)
            right += wanted
        self.assertGreater(right, 80)

    def test_64_states(self):
        with without_delay(self):
            self.assertIs(judge_open(("",), ("a",), 20, "a" * 32, (ring(64), ring(32))), True)
            self.assertIs(judge_open(("",), ("a",), 20, "a" * 32, (ring(32), ring(32))), False)
            self.assertIs(judge_open(("",), ("a",), 20, "a" * 32, (ring(64, ends=(0, 3)), ring(32))), False)
            self.assertIs(judge_open(("",), ("a",), 20, "a" * 32, (ring(64), ring(64, ends=(0, 32, 33)))), False)


if __name__ == "__main__":
    unittest.main()
