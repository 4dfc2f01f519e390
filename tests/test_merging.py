import random
import unittest

from fromruns.errors import BadMerge, FromrunsError
from fromruns.learning import learn
from fromruns.machines import machine_of, runs_machine
from fromruns.merging import is_whole, lump_machine, lumps, merge_log
from tests.closing import all_merges, firsts_of, may_merge, put_together, slow_lumps, slow_web, some_log, some_runs, starts
from tests.reference import complaint, ordered, without_delay

EMPTY = ((), ())
EMPTY_RUN = (((),), (0,))
RUNS = ("ab", "aab", "aaab")

LARGE = [
    ("a" * 64, "a" * 48, "a" * 28),
    ("ab" * 32, "ab" * 20, "ab" * 18),
    tuple("a" * at + "b" for at in range(15)) + ("c" * 20,),
    tuple("abcdef"[at % 6] * (at % 3) + "ab" for at in range(18)) + ("", "abc" * 20),
    tuple(x + y for x in "abcdef" for y in "abcdef") + ("abcdef" * 10, "fedcba"),
    tuple("abcdef") * 5 + ("", "a" * 64, "b" * 40),
]


def replay(runs, k, log):
    """The lumps behind the log, or the position of the first merge that is not allowed."""
    lump = {name: name for name in starts(runs)}
    for at, merge in enumerate(log):
        if not may_merge(runs, k, lump, merge):
            return at
        lump = put_together(lump, merge)
    return lump


class Logs(unittest.TestCase):
    def check(self, runs, k):
        log = merge_log(runs, k)
        self.assertIs(type(log), tuple)
        for merge in log:
            self.assertEqual([type(merge)] + [type(part) for part in merge], [tuple] + [str] * 5)
        behind = replay(runs, k, log)
        self.assertIsInstance(behind, dict)
        self.assertEqual(firsts_of(behind), firsts_of(slow_lumps(runs, k)))
        self.assertIs(is_whole(runs, k, log), True)
        self.assertEqual(lumps(runs, k, log), firsts_of(behind))
        return log

    def test_small_ones(self):
        for seed in range(200):
            runs = some_runs(seed, many=6, most=6, letters="ab" if seed % 2 else "abc")
            for k in (0, 1, 2, 3, 20):
                self.check(runs, k)

    def test_nothing_is_left_to_merge(self):
        for seed in range(60):
            runs = some_runs(seed, many=3, most=3)
            for k in range(3):
                log = merge_log(runs, k)
                self.assertEqual(all_merges(runs, k, replay(runs, k, log)), [])

    def test_logs_in_any_order_lead_to_the_same_lumps(self):
        for seed in range(50):
            runs = some_runs(seed, many=4, most=3)
            for k in range(3):
                log = merge_log(runs, k)
                for other in (some_log(runs, k, seed), some_log(runs, k, seed + 100)):
                    self.assertEqual(len(other), len(log))
                    self.assertIs(is_whole(runs, k, other), True)
                    self.assertEqual(lumps(runs, k, other), lumps(runs, k, log))
                    self.assertEqual(lump_machine(runs, k, other), learn(runs, k))
                    for at in range(len(other)):
                        self.assertIs(is_whole(runs, k, other[:at]), False)
                        self.assertEqual(lumps(runs, k, other[:at]), firsts_of(replay(runs, k, other[:at])))

    def test_edges(self):
        for k in (0, 1, 20):
            self.assertEqual(merge_log((), k), ())
            self.assertEqual(merge_log(("",), k), ())
            self.assertEqual(lumps((), k, ()), ())
            self.assertEqual(lumps(("", ""), k, ()), ("",))
            self.assertIs(is_whole((), k, ()), True)
            self.assertIs(is_whole(("",), k, ()), True)
            self.assertEqual(lump_machine((), k, ()), EMPTY)
            self.assertEqual(lump_machine(("",), k, ()), EMPTY_RUN)
        self.assertEqual(merge_log(("", "a"), 0), (("", "a", "", "a", "ends"),))
        self.assertEqual(merge_log(("", "a"), 1), ())

    def test_k_as_large_as_the_longest_run_and_larger(self):
        for seed in range(40):
            runs = some_runs(seed, many=6, most=5)
            longest = max(map(len, runs), default=0)
            for k in (longest, longest + 1, 20):
                self.assertEqual(merge_log(runs, k), ())
                self.assertIs(is_whole(runs, k, ()), True)
                self.assertEqual(lumps(runs, k, ()), tuple(starts(runs)))
                self.assertEqual(lump_machine(runs, k, ()), runs_machine(runs))

    def test_order_duplicates_and_lists(self):
        for seed in range(30):
            runs = some_runs(seed)
            for k in (0, 1, 2):
                log = merge_log(runs, k)
                for told in (runs[::-1] + runs, list(runs)):
                    self.assertEqual(merge_log(told, k), log)
                    self.assertEqual(lumps(told, k, log), lumps(runs, k, log))
                    self.assertIs(is_whole(told, k, log), True)
                    self.assertEqual(lump_machine(told, k, log), lump_machine(runs, k, log))

    def test_as_large_as_allowed(self):
        for runs in LARGE:
            self.assertTrue(sum(map(len, runs)) <= 140)
            for k in (0, 1, 2, 20):
                with without_delay(self):
                    log = self.check(runs, k)
                    self.assertEqual(lump_machine(runs, k, log), learn(runs, k))


class LumpMachine(unittest.TestCase):
    def test_it_takes_the_closure(self):
        for seed in range(150):
            runs = some_runs(seed, many=6, most=6)
            for k in (0, 1, 2, 20):
                told = lump_machine(runs, k, merge_log(runs, k))
                self.assertIsNone(complaint(told))
                self.assertEqual(told, machine_of(slow_web(runs, k)))


class Wrong(unittest.TestCase):
    def check(self, runs, k, log):
        behind = replay(runs, k, log)
        if isinstance(behind, dict):
            self.assertEqual(lumps(runs, k, log), firsts_of(behind))
            self.assertIs(is_whole(runs, k, log), all_merges(runs, k, behind) == [])
            return True
        with self.assertRaises(BadMerge) as caught:
            lumps(runs, k, log)
        self.assertEqual(caught.exception.position, behind)
        self.assertIs(type(caught.exception.position), int)
        self.assertIsInstance(caught.exception, FromrunsError)
        self.assertIs(is_whole(runs, k, log), False)
        return False

    def test_any_merges_are_judged_by_their_words(self):
        right = wrong = 0
        for seed in range(700):
            pick = random.Random(seed)
            runs = some_runs(seed, many=4, most=3)
            k = pick.randrange(3)
            names = starts(runs) + ["c", "abab"]
            log = [list(merge) for merge in some_log(runs, k, seed)]
            for _ in range(pick.randrange(3)):
                if log and pick.random() < 0.6:
                    merge = pick.choice(log)
                    at = pick.randrange(5)
                    merge[at] = pick.choice(names) if at < 4 else pick.choice(("step", "ends", "meets", "Step", ""))
                elif log and pick.random() < 0.5:
                    pick.shuffle(log)
                else:
                    reason = pick.choice(("step", "ends", "meets"))
                    log.insert(pick.randint(0, len(log)), [pick.choice(names) for _ in range(4)] + [reason])
            fine = self.check(runs, k, tuple(map(tuple, log)))
            right += fine
            wrong += not fine
        self.assertGreater(right, 200)
        self.assertGreater(wrong, 300)

    def test_all_single_merges(self):
        names = starts(("ab", "b", "")) + ["ba"]
        fours = [(p, q, f, g) for p in names for q in names for f in names for g in names]
        for k in range(3):
            fine = 0
            for four in fours:
                for reason in ("step", "ends", "meets"):
                    fine += self.check(("ab", "b", ""), k, (four + (reason,),))
            self.assertEqual(fine, (6, 2, 0)[k])

    def test_each_condition(self):
        for merge in (
            ("ab", "aab", "ab", "aab", "step"), ("ab", "aab", "ab", "aab", "meets"), ("ab", "aab", "ab", "aab", "end"),
            ("ab", "aab", "ab", "aab", ""), ("ab", "aab", "ab", "aab", "ENDS"), ("ab", "ab", "ab", "ab", "ends"),
            ("ab", "aab", "aab", "ab", "ends"), ("ab", "aab", "aaab", "aab", "ends"), ("ab", "aab", "ab", "ab", "ends"),
            ("ab", "b", "ab", "aab", "ends"), ("b", "aab", "ab", "aab", "ends"), ("ab", "aab", "xy", "aab", "ends"),
            ("ab", "aab", "ab", "", "ends"), ("a", "aa", "a", "aa", "ends"), ("ab", "AAB", "ab", "aab", "ends"),
            ("a", "aa", "", "a", "step"), ("ab", "aab", "a", "aa", "step"), ("", "a", "", "", "step"),
            ("", "", "", "", "step"), ("", "", "", "", "meets"), ("", "a", "", "a", "ends"), ("", "a", "", "a", "meets"),
        ):
            self.assertFalse(self.check(RUNS, 1, (merge,)), merge)
        self.assertTrue(self.check(RUNS, 1, (("ab", "aab", "ab", "aab", "ends"),)))
        self.assertTrue(self.check(RUNS, 2, (("ab", "aab", "ab", "aab", "ends"),)))
        self.assertFalse(self.check(RUNS, 3, (("ab", "aab", "ab", "aab", "ends"),)))
        self.assertTrue(self.check(RUNS, 3, (("aab", "aaab", "aab", "aaab", "ends"),)))

    def test_the_last_letters_have_to_be_the_same(self):
        ends = ("ab", "aa", "ab", "aa", "ends")
        self.assertTrue(self.check(("ab", "aa"), 0, (ends,)))
        self.assertFalse(self.check(("ab", "aa"), 1, (ends,)))
        self.assertFalse(self.check(("ab", "aa"), 2, (ends,)))
        both = ("abc", "aac", "abc", "aac", "ends")
        meets = ("ab", "aa", "ab", "aa", "meets")
        self.assertTrue(self.check(("abc", "aac"), 0, (both, meets)))
        self.assertFalse(self.check(("abc", "aac"), 1, (both, meets)))
        self.assertFalse(self.check(("abc", "aac"), 2, (both,)))

    def test_the_reason_has_to_be_one_of_three(self):
        ends = ("ab", "aab", "ab", "aab", "ends")
        meets = ("a", "aa", "a", "aa", "meets")
        step = ("aa", "aaa", "a", "aa", "step")
        self.assertTrue(self.check(RUNS, 1, (ends, meets, step)))
        for told, before in ((ends, ()), (meets, (ends,)), (step, (ends, meets))):
            for reason in ("step", "ends", "meets", "", "meet", "Meets", "x"):
                self.assertEqual(self.check(RUNS, 1, (*before, told[:4] + (reason,))), reason == told[4], (told, reason))

    def test_tuples_of_another_length(self):
        good = ("ab", "aab", "ab", "aab", "ends")
        for merge in ((), ("ends",), good[:4], good + ("ends",), good[1:]):
            for log in ((merge,), (good, merge)):
                with self.assertRaises(BadMerge) as caught:
                    lumps(RUNS, 1, log)
                self.assertEqual(caught.exception.position, len(log) - 1)
                self.assertIs(is_whole(RUNS, 1, log), False)

    def test_the_first_one_is_told(self):
        good = ("ab", "aab", "ab", "aab", "ends")
        self.assertTrue(self.check(RUNS, 1, (good, ("a", "aa", "a", "aa", "meets"))))
        self.assertFalse(self.check(RUNS, 1, (("a", "aa", "a", "aa", "meets"), good)))
        self.assertFalse(self.check(RUNS, 1, (good, good, ("x", "", "", "", ""))))
        self.assertFalse(self.check((), 0, (good,)))
        self.assertFalse(self.check(("",), 0, (("", "", "", "", "ends"),)))
        log = merge_log(RUNS, 1)
        for more in log:
            with self.assertRaises(BadMerge) as caught:
                lumps(RUNS, 1, log + (more,))
            self.assertEqual(caught.exception.position, len(log))
            self.assertIs(is_whole(RUNS, 1, log + (more,)), False)

    def test_f_and_g_need_not_be_p_and_q(self):
        runs = ("a", "aa", "aaa", "b")
        log = (("a", "aa", "a", "aa", "ends"), ("aaa", "a", "aaa", "aa", "ends"))
        self.assertTrue(self.check(runs, 1, log))
        log = (("ab", "aab", "ab", "aab", "ends"), ("ab", "aaab", "aab", "aaab", "ends"), ("aa", "aaa", "aa", "aaa", "meets"))
        self.assertTrue(self.check(RUNS, 1, log))
        self.assertTrue(self.check(RUNS, 1, log + (("a", "aaa", "a", "aa", "meets"),)))
        self.assertIs(is_whole(RUNS, 1, log), False)
        self.assertIs(is_whole(RUNS, 1, log + (("a", "aaa", "a", "aa", "meets"),)), True)

    def test_any_strings(self):
        for text in ("", "A", "ab\n", " ", "-1", "a" * 500, "\u00e4"):
            self.assertFalse(self.check(RUNS, 1, ((text, "aab", "ab", "aab", "ends"),)))
            self.assertFalse(self.check(RUNS, 1, (("ab", "aab", "ab", text, "ends"),)))
            self.assertFalse(self.check(RUNS, 1, (("ab", "aab", "ab", "aab", text),)))
        with without_delay(self):
            self.assertFalse(self.check(RUNS, 1, (("x", "y", "x", "y", "ends"),) * 5000))

    def test_each_kind_of_merge_is_missed(self):
        """A log is not whole if there is a merge of one kind alone that is still allowed."""
        # ends: the two runs have the same last letter, and nothing else is alike
        self.assertIs(is_whole(("ba", "ca"), 2, ()), True)
        self.assertIs(is_whole(("ba", "ca"), 1, ()), False)
        # step: behind the merge of the ends there is a letter from both
        runs = ("a", "ba", "ab", "bab")
        log = (("a", "ba", "a", "ba", "ends"),)
        self.assertEqual({merge[4] for merge in all_merges(runs, 1, replay(runs, 1, log))}, {"step", "ends"})
        runs = ("a", "ba", "abb", "babc")
        self.assertEqual({merge[4] for merge in all_merges(runs, 1, replay(runs, 1, log))}, {"step"})
        self.assertIs(is_whole(runs, 1, log), False)
        # meets
        runs = ("bab", "cab")
        log = (("bab", "cab", "bab", "cab", "ends"),)
        self.assertEqual({merge[4] for merge in all_merges(runs, 1, replay(runs, 1, log))}, {"meets"})
        self.assertIs(is_whole(runs, 1, log), False)
        self.assertEqual(ordered(runs), list(runs))


if __name__ == "__main__":
    unittest.main()
