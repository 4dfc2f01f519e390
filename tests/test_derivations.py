import random
import unittest

from fromruns.counting import short_runs
from fromruns.derivations import derive, judge_derivation
from fromruns.learning import learn
from fromruns.machines import machine_of
from tests.closing import derives, slow_web, some_runs, starts, walk
from tests.reference import all_runs, has, without_delay
from tests.test_merging import LARGE

SEEN = ("ab", "aab")
RIGHT = (("ab", ()), ("aab", ()), ("aaab", (0, 1, 1, 1, 2)))


class Derive(unittest.TestCase):
    def check(self, runs, k, run):
        told = derive(runs, k, run)
        self.assertIs(type(told), tuple)
        for line in told:
            self.assertIs(type(line), tuple)
            self.assertEqual([type(part) for part in line], [str, tuple])
            self.assertTrue(all(type(number) is int for number in line[1]))
        self.assertTrue(derives(runs, k, told, run))
        self.assertIs(judge_derivation(runs, k, told, run), True)
        many = len(starts(runs))
        self.assertLessEqual(len(told), many * many + len(run) + 1)
        self.assertLessEqual(max(len(made) for made, _ in told), many + 130)
        return told

    def test_all_short_runs(self):
        for seed in range(150):
            runs = some_runs(seed, many=6, most=6)
            for k in (0, 1, 2, 3, 20):
                machine = machine_of(slow_web(runs, k))
                for run in all_runs("ab", 4):
                    if has(machine, run):
                        self.check(runs, k, run)
                    else:
                        self.assertIsNone(derive(runs, k, run))

    def test_longer_runs(self):
        for seed in range(150):
            runs = some_runs(seed, many=8, most=8, letters="abc") + ("abcab",)
            for k in (0, 1, 2, 3):
                machine = learn(runs, k)
                for letters in (5, 10, 50):
                    self.check(runs, k, walk(machine, seed, letters))

    def test_runs_of_the_tuple(self):
        for k in (0, 1, 2, 20):
            for run in SEEN:
                self.check(SEEN, k, run)
        self.check(("",), 0, "")
        self.check(("",), 20, "")

    def test_edges(self):
        for k in (0, 1, 20):
            self.assertIsNone(derive((), k, ""))
            self.assertIsNone(derive((), k, "ab"))
            self.assertIsNone(derive(("",), k, "a"))
            self.assertIsNone(derive(("ab",), k, ""))
            self.assertIsNone(derive(SEEN, k, "ba"))
            self.assertIsNone(derive(SEEN, k, "abc"))
        self.check(SEEN, 0, "b")
        self.assertIsNone(derive(SEEN, 1, "b"))
        self.check(SEEN, 1, "aaaab")
        self.assertIsNone(derive(SEEN, 2, "aaaab"))
        self.check(("", "a"), 0, "a" * 64)
        self.assertIsNone(derive(("", "a"), 1, "aa"))

    def test_order_duplicates_and_lists(self):
        runs = ("abab", "ab", "ba", "aab", "b")
        for k in (0, 1):
            for run in short_runs(learn(runs, k), 5):
                told = self.check(runs, k, run)
                self.assertEqual(derive(runs[::-1] + runs, k, run), told)
                self.assertEqual(derive(list(runs), k, run), told)

    def test_as_large_as_allowed(self):
        for runs in LARGE:
            for k in (0, 1, 2, 20):
                machine = learn(runs, k)
                with without_delay(self):
                    for seed in range(5):
                        run = walk(machine, seed, 60)
                        if len(run) <= 64:
                            self.check(runs, k, run)
                    for run in runs[:3]:
                        self.check(runs, k, run)

    def test_runs_that_need_many_lines(self):
        runs = tuple(
            "bec afefa aa edd cf ffed bac cef affaf df ebb ffcef deaed ccbad bc cdbba debac fbfea bdcd dcedd caa effd "
            "beeb acafd fddd ade ad cdfdf ae efefe cbfc cfefc dacbf fccf abb bd fdeb".split()
        )
        machine = learn(runs, 0)
        with without_delay(self):
            told = [self.check(runs, 0, walk(machine, seed, 60)) for seed in range(10)]
        self.assertGreater(max(map(len, told)), 500)
        runs = ("c" * 60, "c" * 58)
        self.check(runs, 2, "c" * 64)
        self.check(("a" * 64, "a" * 63), 20, "a" * 60)
        self.check(("a" * 64 + "b" * 6, "a" * 63 + "b" * 6), 0, "b" * 6)
        self.check(("a" + "b" * 63, "b" * 63), 0, "a" * 30 + "b" * 63)


class Judge(unittest.TestCase):
    def test_the_example_of_the_document(self):
        self.assertIs(judge_derivation(SEEN, 1, RIGHT, "aaab"), True)
        self.assertIs(judge_derivation(SEEN, 0, RIGHT, "aaab"), True)
        self.assertIs(judge_derivation(SEEN, 2, RIGHT, "aaab"), False)
        self.assertIs(judge_derivation(list(SEEN), 1, RIGHT, "aaab"), True)

    def test_the_run_of_the_last_line_is_meant(self):
        self.assertIs(judge_derivation(SEEN, 1, RIGHT, "aab"), False)
        self.assertIs(judge_derivation(SEEN, 1, RIGHT[:2], "aaab"), False)
        self.assertIs(judge_derivation(SEEN, 1, RIGHT[:2], "aab"), True)
        self.assertIs(judge_derivation(SEEN, 1, RIGHT + RIGHT[:1], "ab"), True)
        self.assertIs(judge_derivation(SEEN, 1, RIGHT + RIGHT[:1], "aaab"), False)
        self.assertIs(judge_derivation(SEEN, 1, (), "ab"), False)
        self.assertIs(judge_derivation((), 0, (), ""), False)
        self.assertIs(judge_derivation((), 0, (("", ()),), ""), False)
        self.assertIs(judge_derivation(("",), 3, (("", ()),), ""), True)

    def test_lines_with_reasons_may_be_runs_of_the_tuple(self):
        runs = SEEN + ("aaab",)
        self.assertIs(judge_derivation(runs, 1, RIGHT, "aaab"), True)
        self.assertIs(judge_derivation(runs, 1, RIGHT[:2] + (("aaab", (0, 1, 1, 1, 1)),), "aaab"), False)
        self.assertIs(judge_derivation(SEEN, 1, RIGHT + (("aaab", (2, 2, 2, 2, 2)),), "aaab"), True)
        self.assertIs(judge_derivation(SEEN, 1, RIGHT + (("aaab", ()),), "aaab"), False)

    def test_wrong_reasons(self):
        great = 10 ** 30
        for reason in (
            (), (0,), (0, 1, 1, 1), (0, 1, 1, 1, 2, 0), (-1, 1, 1, 1, 2), (0, -1, 1, 1, 2), (0, 1, -1, 1, 2),
            (2, 1, 1, 1, 2), (0, 2, 1, 1, 2), (0, 1, 2, 1, 2), (3, 1, 1, 1, 2), (0, 3, 1, 1, 2), (0, 1, 3, 1, 2),
            (great, 1, 1, 1, 2), (0, great, 1, 1, 2), (0, 1, great, 1, 2), (0, 1, 1, great, 2), (0, 1, 1, 1, great),
            (0, 1, 1, -1, 2), (0, 1, 1, 1, -1), (0, 1, 1, 0, 1), (0, 1, 1, 0, 2), (0, 1, 1, 1, 1), (0, 1, 1, 2, 2),
            (0, 1, 1, 2, 3), (1, 1, 1, 1, 2), (1, 0, 1, 1, 2), (0, 0, 1, 1, 2), (0, 1, 0, 1, 2), (-2, -1, -1, 1, 2),
            (0, 1, 1, 3, 4), (0, 1, 1, -great, -great),
        ):
            lines = RIGHT[:2] + (("aaab", reason),)
            self.assertFalse(derives(SEEN, 1, lines, "aaab"))
            self.assertIs(judge_derivation(SEEN, 1, lines, "aaab"), False, reason)

    def test_numbers_of_letters_that_there_are_not(self):
        """What slices of strings would take for numbers of letters."""
        for made, reason in (
            ("aab", (0, 1, 0, 1, 2)), ("aab", (0, 1, 0, 2, 3)), ("aab", (0, 1, 0, -1, 2)), ("aab", (0, 1, 0, 1, -1)),
            ("aab", (0, 1, 0, -1, -1)), ("aab", (0, 1, 0, 5, 3)), ("aab", (0, 1, 0, 2, 5)), ("aab", (0, 1, 0, 5, 5)),
            ("ab", (1, 0, 1, -1, 1)), ("ab", (1, 0, 1, 3, 2)), ("ab", (1, 0, 1, 4, 2)), ("ab", (1, 0, 1, 3, 9)),
            ("ab", (0, 0, 0, -1, -1)), ("ab", (0, 0, 0, 9, 9)), ("ab", (0, 0, 0, 2, 2)), ("ab", (0, 0, 0, -2, -2)),
        ):
            for k in (0, 1, 2):
                lines = RIGHT[:2] + ((made, reason),)
                self.assertIs(judge_derivation(SEEN, k, lines, made), derives(SEEN, k, lines, made), (k, reason))
                self.assertFalse(min(reason) < 0 and derives(SEEN, k, lines, made))

    def test_wrong_runs(self):
        for made in ("", "a", "aab", "aaaab", "aaaB", "AAAB", "aaab ", "b" * 1000):
            lines = RIGHT[:2] + ((made, RIGHT[2][1]),)
            self.assertIs(judge_derivation(SEEN, 1, lines, made), False)
            self.assertIs(judge_derivation(SEEN, 1, lines + (("ab", ()),), "ab"), False)
            self.assertIs(judge_derivation(SEEN, 1, lines[:2] + ((made, ()),), made), made in SEEN)

    def test_later_lines_and_the_line_itself(self):
        self.assertIs(judge_derivation(SEEN, 1, (RIGHT[2],) + RIGHT[:2], "aab"), False)
        self.assertIs(judge_derivation(SEEN, 1, (("ab", ()), RIGHT[2], ("aab", ())), "aab"), False)
        self.assertIs(judge_derivation(SEEN, 1, (("ab", (0, 0, 0, 1, 1)),), "ab"), False)
        self.assertIs(judge_derivation(SEEN, 0, (("", (0, 0, 0, 0, 0)),), ""), False)
        self.assertIs(judge_derivation(SEEN, 1, (("ab", (1, 1, 1, 2, 2)), ("ab", ())), "ab"), False)

    def test_each_condition(self):
        def judged(k, runs, made, reason):
            lines = tuple((run, ()) for run in runs) + ((made, reason),)
            wanted = derives(runs, k, lines, made)
            self.assertIs(judge_derivation(runs, k, lines, made), wanted)
            return wanted

        # u = a, z = b, v = cd, w = e, x = f
        corner = ("acde", "bcde", "acdf")
        self.assertTrue(judged(2, corner, "bcdf", (0, 1, 2, 3, 3)))
        self.assertTrue(judged(0, corner, "bcdf", (0, 1, 2, 3, 3)))
        self.assertFalse(judged(3, corner, "bcdf", (0, 1, 2, 3, 3)))
        self.assertFalse(judged(4, corner, "bcdf", (0, 1, 2, 3, 3)))
        # what stands behind is not the same, or the last letters are not, or the first letters are not
        self.assertFalse(judged(2, ("acde", "bcdf", "acdf"), "bcdf", (0, 1, 2, 3, 3)))
        self.assertFalse(judged(2, ("acde", "bdde", "acdf"), "bddf", (0, 1, 2, 3, 3)))
        self.assertTrue(judged(1, ("acde", "bdde", "acdf"), "bddf", (0, 1, 2, 3, 3)))
        self.assertFalse(judged(2, ("acde", "bcde", "bcdf"), "bcdf", (0, 1, 2, 3, 3)))
        self.assertFalse(judged(2, corner, "bcde", (0, 1, 2, 3, 3)))
        self.assertFalse(judged(2, corner, "acdf", (0, 1, 2, 3, 3)))
        # m may be all letters of I, but not more than those of H
        self.assertTrue(judged(2, ("acd", "bcd", "acdf"), "bcdf", (0, 1, 2, 3, 3)))
        self.assertTrue(judged(2, ("acde", "bcde", "acd"), "bcd", (0, 1, 2, 3, 3)))
        self.assertFalse(judged(2, ("acde", "bcde", "ac"), "bcd", (0, 1, 2, 3, 3)))
        self.assertFalse(judged(0, ("acd", "bcd", "acd"), "bcd", (0, 1, 2, 4, 4)))
        # k = 0, and parts without letters
        self.assertTrue(judged(0, ("ab", "b", "ac"), "c", (0, 1, 2, 1, 0)))
        self.assertFalse(judged(1, ("ab", "b", "ac"), "c", (0, 1, 2, 1, 0)))
        self.assertTrue(judged(0, ("", "a", ""), "a", (0, 1, 2, 0, 1)))
        self.assertFalse(judged(0, ("", "a", ""), "", (0, 1, 2, 0, 1)))

    def test_any_lines_are_judged_by_their_words(self):
        right = 0
        for seed in range(2500):
            pick = random.Random(seed)
            runs = some_runs(seed, many=4, most=4) + ("ab", "aab")
            k = pick.randrange(3)
            run = walk(learn(runs, k), seed, pick.randrange(8))
            lines = [list(row) for row in derive(runs, k, run)]
            for _ in range(pick.randrange(3)):
                row = pick.choice(lines)
                if row[1] and pick.random() < 0.8:
                    reason = list(row[1])
                    reason[pick.randrange(5)] += pick.choice((-1, 1, 2))
                    row[1] = tuple(reason)
                elif pick.random() < 0.5:
                    row[0] = pick.choice(all_runs("ab", 3))
                else:
                    lines = lines[::-1]
            lines = tuple(tuple(row) for row in lines)
            wanted = derives(runs, k, lines, run)
            self.assertIs(judge_derivation(runs, k, lines, run), wanted)
            self.assertFalse(wanted and not has(learn(runs, k), run))
            right += wanted
        self.assertTrue(500 < right < 2400)

    def test_many_lines(self):
        lines = (("a" * 64, ()), ("a" * 63, ()))
        for at in range(10000):
            lines += (("a" * (at % 64), (0, 1, 0, 64, 63)),) if at % 64 == 63 else ()
        with without_delay(self):
            self.assertIs(judge_derivation(("a" * 64, "a" * 63), 20, lines, "a" * 63), True)
            self.assertIs(judge_derivation(("a" * 64, "a" * 63), 20, lines * 100, "a" * 63), True)


if __name__ == "__main__":
    unittest.main()
