import random
import unittest

from fromruns.words import backwards, beginnings, in_order, last_letters
from tests.reference import ordered, without_delay


def eighty_runs():
    """80 runs with together 200 letters, some of them twice."""
    pick = random.Random(80)
    sizes = [2] * 40 + [3] * 40
    return tuple("".join(pick.choice("abcdef") for _ in range(size)) for size in sizes)


class InOrder(unittest.TestCase):
    def test_shorter_first_then_as_strings(self):
        self.assertEqual(in_order(("b", "aa", "", "a", "ab", "c")), ("", "a", "b", "c", "aa", "ab"))
        self.assertEqual(in_order(("zz", "b", "aaa")), ("b", "zz", "aaa"))

    def test_no_runs_and_the_empty_run(self):
        self.assertEqual(in_order(()), ())
        self.assertEqual(in_order(("",)), ("",))
        self.assertEqual(in_order(("", "")), ("",))

    def test_duplicates_go(self):
        self.assertEqual(in_order(("b", "a", "b", "a", "a")), ("a", "b"))

    def test_runs_of_equal_length(self):
        self.assertEqual(in_order(("ba", "bb", "ab", "aa")), ("aa", "ab", "ba", "bb"))

    def test_any_order_gives_the_same(self):
        runs = list(eighty_runs())
        self.assertEqual(sum(map(len, runs)), 200)
        told = in_order(tuple(runs))
        self.assertEqual(list(told), ordered(runs))
        for seed in range(5):
            random.Random(seed).shuffle(runs)
            self.assertEqual(in_order(tuple(runs + runs[:7])), told)

    def test_what_is_in_order_stays(self):
        told = in_order(eighty_runs())
        self.assertEqual(in_order(told), told)
        self.assertEqual(in_order(("", "a", "b", "aa")), ("", "a", "b", "aa"))

    def test_a_passed_list_is_unchanged(self):
        runs = ["b", "a", "b"]
        self.assertEqual(in_order(runs), ("a", "b"))
        self.assertEqual(runs, ["b", "a", "b"])


class Beginnings(unittest.TestCase):
    def test_the_empty_run_and_the_run_itself_are_beginnings(self):
        self.assertEqual(beginnings(("abc",)), ("", "a", "ab", "abc"))
        self.assertEqual(beginnings(("",)), ("",))

    def test_no_runs_have_no_beginnings(self):
        self.assertEqual(beginnings(()), ())

    def test_in_order_without_duplicates(self):
        self.assertEqual(beginnings(("ba", "ab", "ba", "abb")), ("", "a", "b", "ab", "ba", "abb"))

    def test_eighty_runs(self):
        runs = eighty_runs()
        wanted = ordered(run[:many] for run in runs for many in range(len(run) + 1))
        self.assertEqual(list(beginnings(runs)), wanted)
        self.assertEqual(beginnings(runs[::-1] + runs), tuple(wanted))

    def test_many_long_runs(self):
        pick = random.Random(5)
        runs = tuple("".join(pick.choice("abcdef") for _ in range(53)) for _ in range(300))
        with without_delay(self):
            told = beginnings(runs)
        self.assertEqual(told[0], "")
        self.assertEqual(told[-1], max(runs))


class LastLetters(unittest.TestCase):
    def test_k_of_each_size(self):
        self.assertEqual(last_letters("abc", 0), "")
        self.assertEqual(last_letters("abc", 1), "c")
        self.assertEqual(last_letters("abc", 2), "bc")
        self.assertEqual(last_letters("abc", 3), "abc")
        self.assertEqual(last_letters("abc", 4), "abc")
        self.assertEqual(last_letters("abc", 20), "abc")

    def test_the_empty_run(self):
        for k in (0, 1, 20):
            self.assertEqual(last_letters("", k), "")

    def test_a_run_of_64_letters(self):
        run = "abcdefgh" * 8
        for k in range(21):
            self.assertEqual(last_letters(run, k), run[64 - k:])
        self.assertEqual(last_letters(run, 64), run)


class Backwards(unittest.TestCase):
    def test_runs(self):
        self.assertEqual(backwards("abc"), "cba")
        self.assertEqual(backwards(""), "")
        self.assertEqual(backwards("a"), "a")

    def test_twice_is_the_run(self):
        run = "abcdeffa" * 8
        self.assertEqual(backwards(run)[0], "a")
        self.assertEqual(backwards(run)[1], "f")
        self.assertEqual(backwards(backwards(run)), run)


if __name__ == "__main__":
    unittest.main()
