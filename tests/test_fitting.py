import random
import unittest

from fromruns.barring import least_fit
from fromruns.fitting import fit_paper, fits, judge_fit
from fromruns.learning import learn
from fromruns.machines import machine_of, runs_machine
from tests.closing import apart, derives, slow_web, some_runs, starts
from tests.reference import all_runs, complaint, has, ordered, ring, without_delay
from tests.test_merging import LARGE

EMPTY = ((), ())
EMPTY_RUN = (((),), (0,))


def slowly(runs, k):
    return machine_of(slow_web(runs, k))


def least_for(seen, run):
    """The least k for which the closure of the seen runs does not have the run."""
    return None if run in seen else min(k for k in range(len(run) + 2) if not has(slowly(seen, k), run))


def rightly(seen, barred, paper):
    """Point [41]."""
    k, machine, lines = paper
    if not apart(machine, k, seen, barred):
        return False
    if k == 0:
        return lines == ()
    return any(derives(seen, k - 1, lines, run) for run in barred)


class Fits(unittest.TestCase):
    def test_by_its_words(self):
        found = set()
        for seed in range(200):
            seen, barred = some_runs(seed, many=5, most=5), some_runs(seed + 900, many=6, most=6)
            told = fits(seen, barred)
            wanted = tuple((run, least_for(seen, run)) for run in ordered(barred))
            self.assertEqual(told, wanted)
            self.assertTrue(all(type(pair) is tuple for pair in told))
            self.assertEqual(fits(seen[::-1] + seen, barred[::-1] + barred), wanted)
            self.assertEqual(fits(list(seen), list(barred)), wanted)
            found |= {least for _, least in told}
        self.assertTrue({None, 0, 1, 2, 3} <= found)

    def test_edges(self):
        self.assertEqual(fits((), ()), ())
        self.assertEqual(fits(("ab",), ()), ())
        self.assertEqual(fits((), ("a", "")), (("", 0), ("a", 0)))
        self.assertEqual(fits(("",), ("a", "")), (("", None), ("a", 0)))
        self.assertEqual(fits(("ab", "aab"), ("aaab", "b", "ab")), (("b", 1), ("ab", None), ("aaab", 2)))

    def test_one_more_than_its_letters(self):
        for many in range(1, 16):
            seen = ("a" * many + "b", "c" + "a" * many + "b", "c" + "a" * many)
            self.assertEqual(fits(seen, ("a" * many, "b")), tuple(ordered_pairs((("a" * many, many + 1), ("b", 0)))))

    def test_as_large_as_allowed(self):
        seen = tuple("a" * at for at in (0, 1, 64, 63, 62))
        barred = tuple("a" * at for at in range(2, 16)) + ("b" * 15, "c" * 15) * 2
        with without_delay(self):
            told = dict(fits(seen, barred))
        self.assertEqual([told["a" * at] for at in range(2, 16)], [at + 1 for at in range(2, 16)])
        self.assertEqual([told["b" * 15], told["c" * 15]], [0, 0])
        many = tuple(x + y for x in "abcdef" for y in "abcdef") + ("a" * 60, "ab" * 30)
        barred = tuple(x + y + z for x in "abc" for y in "abcd" for z in "abcde") + ("abcdefabcdefabc",)
        with without_delay(self):
            told = dict(fits(many, barred))
        self.assertEqual([least_for(many, run) for run in ("aaa", "abc", "abcdefabcdefabc")],
                         [told[run] for run in ("aaa", "abc", "abcdefabcdefabc")])


def ordered_pairs(pairs):
    return sorted(pairs, key=lambda pair: (len(pair[0]), pair[0]))


class FitPaper(unittest.TestCase):
    def check(self, seen, barred):
        told = fit_paper(seen, barred)
        if set(seen) & set(barred):
            self.assertIsNone(told)
            return None
        self.assertIs(type(told), tuple)
        k, machine, lines = told
        self.assertIs(type(k), int)
        self.assertIs(type(lines), tuple)
        self.assertEqual(k, max([least_for(seen, run) for run in barred], default=0))
        self.assertIsNone(complaint(machine))
        self.assertLessEqual(len(machine[0]), 64)
        self.assertTrue({letter for row in machine[0] for letter, _ in row} <= set("".join(seen)))
        self.assertTrue(rightly(seen, barred, told))
        self.assertIs(judge_fit(seen, barred, told), True)
        if lines:
            many = len(starts(seen))
            self.assertLessEqual(len(lines), many * many + len(lines[-1][0]) + 1)
            self.assertLessEqual(max(len(made) for made, _ in lines), many + 130)
        self.assertEqual(fit_paper(seen[::-1] + seen, barred[::-1] + barred), told)
        self.assertEqual(fit_paper(list(seen), list(barred)), told)
        return k

    def test_small_ones(self):
        found = set()
        for seed in range(250):
            found.add(self.check(some_runs(seed, many=5, most=5), some_runs(seed + 900, many=3, most=6)))
        self.assertTrue({None, 0, 1, 2} <= found)

    def test_edges(self):
        self.assertEqual(fit_paper((), ()), (0, EMPTY, ()))
        self.assertEqual(self.check((), ("", "a")), 0)
        self.assertEqual(self.check(("",), ("a",)), 0)
        self.assertEqual(self.check(("ab", "aab"), ()), 0)
        self.assertEqual(self.check(("ab", "aab"), ("b",)), 1)
        self.assertEqual(self.check(("ab", "aab"), ("b", "aaab")), 2)
        self.assertIsNone(self.check(("ab", "aab"), ("b", "aab")))
        self.assertIsNone(self.check(("",), ("", "a")))
        for many in range(1, 16):
            seen = ("a" * many + "b", "c" + "a" * many + "b", "c" + "a" * many)
            self.assertEqual(self.check(seen, ("a" * many, "b")), many + 1)

    def test_it_agrees_with_least_fit(self):
        for seed in range(60):
            seen, barred = some_runs(seed, many=5, most=5), some_runs(seed + 900, many=3, most=6)
            told = fit_paper(seen, barred)
            self.assertEqual(least_fit(runs_machine(seen), barred), told and told[0])

    def test_as_large_as_allowed(self):
        for runs in LARGE + [("a" * 64, "a" * 63), ("", "a" * 64, "a" * 60)]:
            with without_delay(self):
                self.check(runs, ("a" * 12, "ba", "abababa", "cccccccc", "abcdefabcdefabc"))
                self.check(runs, tuple("a" * at for at in range(1, 16) if "a" * at not in runs))
                self.check(runs, ("b" * 15,))


class JudgeFit(unittest.TestCase):
    def test_each_condition(self):
        seen, barred = ("ab", "aab"), ("b", "aaab")
        lines = (("ab", ()), ("aab", ()), ("aaab", (0, 1, 1, 1, 2)))
        good = learn(seen, 2)

        def judged(k, machine, lines, seen=seen, barred=barred):
            wanted = rightly(seen, barred, (k, machine, lines))
            self.assertIs(judge_fit(seen, barred, (k, machine, lines)), wanted)
            self.assertIs(judge_fit(list(seen), list(barred), (k, machine, lines)), wanted)
            return wanted

        self.assertTrue(judged(2, good, lines))
        # the number is another one
        self.assertFalse(judged(1, good, lines))
        self.assertFalse(judged(0, good, lines))
        self.assertFalse(judged(0, good, ()))
        self.assertFalse(judged(3, good, lines))
        self.assertFalse(judged(20, good, lines))
        # the machine takes a barred run, or misses a seen one, or is not closed
        self.assertFalse(judged(2, learn(seen, 1), lines))
        self.assertFalse(judged(2, learn(seen[:1], 2), lines))
        self.assertFalse(judged(2, EMPTY, lines))
        self.assertFalse(judged(2, runs_machine(("ab", "aab", "bab", "baab", "babb")), lines))
        self.assertTrue(judged(2, runs_machine(("ab", "aab", "c")), lines))
        # the lines are none, or derive something else, or not for one letter less
        self.assertFalse(judged(2, good, ()))
        self.assertFalse(judged(2, good, lines[:2]))
        self.assertFalse(judged(2, good, lines + (("ab", ()),)))
        self.assertFalse(judged(2, good, (("b", ()),)))
        self.assertFalse(judged(2, good, (("ab", ()), ("aab", ()), ("b", (1, 0, 0, 1, 0)))))
        self.assertTrue(judged(2, good, lines, barred=("aaab",)))
        self.assertFalse(judged(2, good, lines, barred=("b",)))
        self.assertFalse(judged(2, good, lines, barred=()))
        self.assertFalse(judged(2, good, lines, seen=("ab",)))
        self.assertFalse(judged(2, good, lines, seen=()))

    def test_no_lines_for_0(self):
        line = ("ab", ())
        self.assertIs(judge_fit(("ab",), ("b",), (0, runs_machine(("ab",)), ())), True)
        self.assertIs(judge_fit(("ab",), (), (0, runs_machine(("ab",)), ())), True)
        self.assertIs(judge_fit(("ab",), ("b",), (0, runs_machine(("ab",)), (line,))), False)
        self.assertIs(judge_fit(("ab",), ("b",), (1, runs_machine(("ab",)), ())), False)
        self.assertIs(judge_fit((), (), (0, EMPTY, ())), True)
        self.assertIs(judge_fit((), (), (0, ring(3), ())), True)
        self.assertIs(judge_fit((), ("",), (0, ring(3), ())), False)
        self.assertIs(judge_fit((), (), (0, ring(3, ends=(0, 1)), ())), False)
        self.assertIs(judge_fit((), (), (1, EMPTY, ())), False)
        self.assertIs(judge_fit(("",), ("",), (0, EMPTY_RUN, ())), False)

    def test_any_papers_are_judged_by_their_words(self):
        right = 0
        for seed in range(700):
            pick = random.Random(seed)
            seen, barred = some_runs(seed, many=4, most=4), some_runs(seed + 900, many=2, most=5)
            told = fit_paper(seen, barred)
            if told is None:
                told = (pick.randrange(3), learn(seen, 2), tuple((run, ()) for run in seen))
            k, machine, lines = told
            lines = [list(row) for row in lines]
            change = pick.randrange(6)
            if change == 0:
                k = pick.randrange(4)
            elif change == 1:
                machine = learn(seen + some_runs(seed + 7), k)
            elif change == 2:
                machine = runs_machine(seen)
            elif lines and change == 3:
                row = pick.choice(lines)
                if row[1]:
                    reason = list(row[1])
                    reason[pick.randrange(5)] += pick.choice((-1, 1))
                    row[1] = tuple(reason)
                else:
                    row[0] = pick.choice(all_runs("ab", 3))
            elif lines and change == 4:
                lines.pop()
            paper = (k, machine, tuple(tuple(row) for row in lines))
            wanted = rightly(seen, barred, paper)
            self.assertIs(judge_fit(seen, barred, paper), wanted)
            right += wanted
        self.assertTrue(200 < right < 680)

    def test_64_states(self):
        with without_delay(self):
            self.assertIs(judge_fit(("", "a" * 64), ("a",), (0, ring(64), ())), True)
            self.assertIs(judge_fit(("", "a" * 64), ("a",), (0, ring(32), ())), True)
            self.assertIs(judge_fit(("", "a" * 64), ("a",), (0, ring(64, ends=(0, 2)), ())), False)
            self.assertIs(judge_fit(("", "a" * 64), ("a",), (20, ring(64), ())), False)


if __name__ == "__main__":
    unittest.main()
