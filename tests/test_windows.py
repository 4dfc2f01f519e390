import random
import unittest

from fromruns.classes import is_closed, shared_pairs
from fromruns.combining import meet, outside
from fromruns.learning import close, leads, learn
from fromruns.machines import machine_of, runs_machine, takes
from fromruns.windows import (
    fits_windows, is_local, judge_gap, judge_splices, least_local, local_close, local_gap, local_learn, splice, windows,
)
from tests.closing import in_windows, local_closure, some_runs, splices, walk
from tests.reference import (
    all_runs, complaint, goes_to, has, language, line, ordered, pairs_sharing, random_web, ring, without_delay,
)

EMPTY = ((), ())
EMPTY_RUN = (((),), (0,))
ALL = (((("a", 0), ("b", 0)),), (0,))


def some_machines(many=60, size=4, arrows=6):
    machines = [EMPTY, EMPTY_RUN, ALL, line(3), ring(3), ring(3, ends=(0, 1)), runs_machine(("ab", "aab"))]
    return machines + [machine_of(random_web(seed, size=size, arrows=arrows, least=1)) for seed in range(many)]


class Windows(unittest.TestCase):
    def test_examples(self):
        self.assertEqual(windows(("abc", "cab"), 1), (("a", "c"), ("ab", "bc", "ca"), ("b", "c")))
        self.assertEqual(windows(("abc", "cab", "a", ""), 2), (("ab", "ca"), ("abc", "cab"), ("ab", "bc")))
        self.assertEqual(windows(("abc", "ba"), 0), (("",), ("a", "b", "c"), ("",)))
        self.assertEqual(windows(("abc", "b"), 3), (("abc",), (), ("abc",)))

    def test_edges(self):
        for k in (0, 1, 20):
            self.assertEqual(windows((), k), ((), (), ()))
        self.assertEqual(windows(("",), 0), (("",), (), ("",)))
        self.assertEqual(windows(("",), 1), ((), (), ()))
        self.assertEqual(windows(("abc", "abc"), 4), ((), (), ()))
        self.assertEqual(windows(["abc", "abc"], 20), ((), (), ()))

    def test_by_their_words(self):
        for seed in range(120):
            runs = some_runs(seed, many=8, most=8, letters="abc")
            for k in (0, 1, 2, 4, 8, 20):
                long = [run for run in runs if len(run) >= k]
                wanted = (
                    tuple(ordered(run[:k] for run in long)),
                    tuple(ordered(part for run in runs for part in all_parts(run) if len(part) == k + 1)),
                    tuple(ordered(run[len(run) - k:] for run in long)),
                )
                self.assertEqual(windows(runs, k), wanted)
                self.assertEqual(windows(runs[::-1] + runs, k), wanted)


def all_parts(run):
    return {run[low:high] for low in range(len(run)) for high in range(low + 1, len(run) + 1)}


class Fits(unittest.TestCase):
    def test_the_example_of_the_document(self):
        self.assertIs(fits_windows(("abc", "cab"), 1, "cabc"), True)

    def test_each_part_is_looked_at(self):
        runs = ("abcd", "bcda")
        self.assertIs(fits_windows(runs, 2, "abcda"), True)
        self.assertIs(fits_windows(runs, 2, "bcd"), True)
        self.assertIs(fits_windows(runs, 2, "cda"), False)
        self.assertIs(fits_windows(runs, 2, "abc"), False)
        self.assertIs(fits_windows(runs, 2, "abda"), False)
        self.assertIs(fits_windows(runs, 2, "ab"), False)
        self.assertIs(fits_windows(("abcd", "ab"), 2, "ab"), True)
        self.assertIs(fits_windows(("abcab", "cabca"), 2, "ab"), True)
        # the last letters have to be those of a run that is long enough
        self.assertIs(fits_windows(("abc", "b"), 2, "ab"), False)

    def test_by_their_words(self):
        for seed in range(80):
            runs = some_runs(seed, many=6, most=6)
            for k in (0, 1, 2, 3, 6, 20):
                for run in all_runs("ab", 6) + ["abc", "c"]:
                    self.assertIs(fits_windows(runs, k, run), in_windows(runs, k, run))

    def test_edges(self):
        for k in (0, 1, 20):
            self.assertIs(fits_windows((), k, ""), False)
            self.assertIs(fits_windows((), k, "ab"), False)
            self.assertIs(fits_windows(("",), k, ""), True)
            self.assertIs(fits_windows(["", "ab"], k, "ab"), True)
        self.assertIs(fits_windows(("ab",), 0, ""), True)
        self.assertIs(fits_windows(("ab",), 0, "bbba"), True)
        self.assertIs(fits_windows(("ab",), 1, ""), False)


class LocalClosure(unittest.TestCase):
    def check(self, told, k, wanted, most):
        self.assertIsNone(complaint(told))
        self.assertEqual(pairs_sharing(told, k, "ab"), ())
        self.assertTrue(all(has(told, run) for run in wanted))
        self.assertEqual(language(told, "ab", most), [run for run in all_runs("ab", most) if run in wanted])

    def test_of_runs_by_splicing_short_ones(self):
        for seed in range(100):
            runs = some_runs(seed, many=4, most=3)
            for k in range(4):
                self.check(local_learn(runs, k), k, local_closure(runs, k, 6), 4)

    def test_of_runs_by_windows(self):
        for seed in range(120):
            runs = some_runs(seed, many=8, most=7)
            for k in (0, 1, 2, 3, 7, 20):
                told = local_learn(runs, k)
                for run in all_runs("ab", 7):
                    self.assertEqual(has(told, run), in_windows(runs, k, run))
                self.assertEqual(local_learn(runs[::-1] + runs, k), told)
                self.assertEqual(local_learn(list(runs), k), told)

    def test_of_machines(self):
        for machine in some_machines(40, size=3, arrows=4):
            for k in range(3):
                self.check(local_close(machine, k), k, local_closure(language(machine, "ab", 6), k, 6), 3)

    def test_machines_of_runs(self):
        for seed in range(60):
            runs = some_runs(seed, many=6, most=6, letters="abc")
            for k in (0, 1, 2, 20):
                self.assertEqual(local_close(runs_machine(runs), k), local_learn(runs, k))
                self.assertEqual(local_close(learn(runs, k), k), local_learn(runs, k))

    def test_it_is_the_least_local_one_among_many(self):
        machines = some_machines(80)
        for k in range(4):
            local = [machine for machine in machines if not pairs_sharing(machine, k, "ab")]
            for machine in machines:
                told = local_close(machine, k)
                self.assertIsNone(outside(machine, told))
                self.assertIsNone(outside(close(machine, k), told))
                self.assertEqual(local_close(told, k), told)
                self.assertEqual(told == machine, machine in local)
                for other in local:
                    if outside(machine, other) is None:
                        self.assertIsNone(outside(told, other))

    def test_edges(self):
        for k in (0, 1, 20):
            self.assertEqual(local_learn((), k), EMPTY)
            self.assertEqual(local_close(EMPTY, k), EMPTY)
            self.assertEqual(local_learn(("",), k), EMPTY_RUN)
            self.assertEqual(local_close(EMPTY_RUN, k), EMPTY_RUN)
        self.assertEqual(local_learn(("ab",), 0), ALL)
        self.assertEqual(local_learn(("aa",), 1), machine_of((2, ((0, "a", 1), (1, "a", 1)), (0,), (1,))))
        self.assertEqual(local_learn(("aa", "b"), 2), runs_machine(("aa", "b")))
        self.assertEqual(local_learn(("aab", "b", "abb"), 3), runs_machine(("aab", "b", "abb")))

    def test_common_runs_stay_local(self):
        machines = [local_close(machine, 2) for machine in some_machines(25)]
        for first in machines:
            self.assertTrue(is_closed(first, 2))
            self.assertTrue(is_local(first, 3))
            for second in machines:
                self.assertTrue(is_local(meet(first, second), 2))

    def test_as_large_as_allowed(self):
        with without_delay(self):
            self.assertEqual(local_close(ring(64), 0), ring(1))
            # 40 states with 80 leads
            arrows = [(at, "a", at + 1) for at in range(39)] + [(39, "b", 0), (39, "c", 0)]
            machine = machine_of((40, tuple(arrows), (0,), (39,)))
            self.assertEqual(len(leads(machine, 20)), 80)
            told = local_close(machine, 20)
            self.assertTrue(is_local(told, 20))
            self.assertIsNone(outside(machine, told))
            runs = tuple("abc"[at % 3] * 2 + "ab" for at in range(40)) + ("abcab" * 8,)
            told = local_learn(runs, 3)
            for seed in range(20):
                self.assertTrue(fits_windows(runs, 3, walk(told, seed, 30)))


class Local(unittest.TestCase):
    def test_by_shared_letters(self):
        for machine in some_machines(150):
            told = []
            for k in range(8):
                self.assertIs(is_local(machine, k), pairs_sharing(machine, k, "ab") == ())
                told.append(is_local(machine, k))
            least = least_local(machine)
            self.assertEqual(told, [least is not None and k >= least for k in range(8)])

    def test_edges(self):
        for machine in (EMPTY, EMPTY_RUN, ALL):
            self.assertEqual(least_local(machine), 0)
            self.assertIs(is_local(machine, 0), True)
            self.assertIsNone(local_gap(machine, 0))
        for many in (1, 2, 30, 63):
            # the last two states share all letters but one
            self.assertEqual(least_local(line(many)), many)
            self.assertIs(is_local(line(min(many, 20)), min(many, 20)), True)
            self.assertIs(is_local(line(min(many, 20)), min(many, 20) - 1), False)
        for many in (2, 3, 64):
            self.assertIsNone(least_local(ring(many)))
            self.assertIs(is_local(ring(many), 20), False)

    def test_as_large_as_allowed(self):
        arrows = tuple((at, "a", at + 1) for at in range(63)) + ((63, "b", 0),)
        machine = machine_of((64, arrows, (0,), (63,)))
        with without_delay(self):
            self.assertEqual(least_local(machine), 63)
            self.assertIs(is_local(machine, 20), False)
            self.assertEqual(least_local(ring(1)), 0)


class Gaps(unittest.TestCase):
    def rightly(self, machine, k, gap):
        u, z, v, w, x = gap
        return len(v) == k and has(machine, u + v + w) and has(machine, z + v + x) and not has(machine, u + v + x)

    def check(self, machine, k):
        told = local_gap(machine, k)
        if shared_pairs(machine, k) == ():
            self.assertIsNone(told)
            return
        self.assertEqual([type(part) for part in told], [str] * 5)
        self.assertIs(type(told), tuple)
        self.assertLessEqual(max(map(len, told)), len(machine[0]) + k)
        self.assertTrue(self.rightly(machine, k, told))
        self.assertIs(judge_gap(machine, k, told), True)

    def test_small_machines(self):
        for machine in some_machines(200):
            for k in (0, 1, 2, 5, 20):
                self.check(machine, k)
        for seed in range(60):
            self.check(machine_of(random_web(seed, size=6, letters="abc", arrows=14, least=1)), seed % 6)

    def test_as_large_as_allowed(self):
        with without_delay(self):
            for k in (0, 1, 20):
                self.check(ring(64), k)
                self.check(line(63), k)
            pick = random.Random(9)
            rows = tuple((at, letter, pick.randrange(64)) for at in range(64) for letter in "abcdef")
            machine = machine_of((64, rows, (0,), (3, 9)))
            for k in (0, 1, 5, 20):
                self.check(machine, k)

    def test_any_gap_is_judged_by_its_words(self):
        right = 0
        for seed, machine in enumerate(some_machines(80)):
            pick = random.Random(seed)
            for _ in range(200):
                k = pick.randrange(3)
                gap = tuple("".join(pick.choice("ab") for _ in range(pick.randrange(4))) for _ in range(2))
                gap += ("".join(pick.choice("ab") for _ in range(k)),)
                gap += tuple("".join(pick.choice("ab") for _ in range(pick.randrange(4))) for _ in range(2))
                self.assertIs(judge_gap(machine, k, gap), self.rightly(machine, k, gap))
                right += self.rightly(machine, k, gap)
        self.assertGreater(right, 30)

    def test_wrong_gaps(self):
        machine = line(3)
        gap = ("", "a", "a", "aa", "a")
        self.assertIs(judge_gap(machine, 1, gap), True)
        self.assertIs(judge_gap(machine, 0, gap), False)
        self.assertIs(judge_gap(machine, 2, gap), False)
        self.assertIs(judge_gap(machine, 1, ("", "", "a", "aa", "aa")), False)
        self.assertIs(judge_gap(machine, 1, ("", "a", "a", "a", "a")), False)
        self.assertIs(judge_gap(machine, 1, ("", "b", "a", "aa", "a")), False)
        self.assertIs(judge_gap(machine, 1, ("", "a", "a", "aa", "b")), False)
        self.assertIs(judge_gap(machine, 1, ("", "a", "b", "aa", "a")), False)
        self.assertIs(judge_gap(machine, 1, ("", "", "", "", "")), False)
        self.assertIs(judge_gap(machine, 1, ()), False)
        self.assertIs(judge_gap(machine, 1, gap[:4]), False)
        self.assertIs(judge_gap(machine, 1, gap + ("",)), False)
        self.assertIs(judge_gap(machine, 1, ("", "A", "a", "aa", "-")), False)
        self.assertIs(judge_gap(EMPTY, 0, ("", "", "", "", "")), False)
        self.assertIs(judge_gap(EMPTY, 1, gap), False)
        self.assertIs(judge_gap(ring(2), 0, ("", "a", "", "", "a")), True)
        self.assertIs(judge_gap(ring(2), 20, ("a" * 70, "a" * 69, "a" * 20, "a" * 90, "a" * 89)), True)


class Splicing(unittest.TestCase):
    def check(self, runs, k, run):
        told = splice(runs, k, run)
        if not in_windows(runs, k, run):
            self.assertIsNone(told)
            return
        self.assertIs(type(told), tuple)
        for made, reason in told:
            self.assertEqual([type(made), type(reason)], [str, tuple])
            self.assertTrue(all(type(number) is int for number in reason))
        self.assertTrue(splices(runs, k, told, run))
        self.assertIs(judge_splices(runs, k, told, run), True)
        self.assertLessEqual(len(told), 2 * len(run) + 3)
        self.assertLessEqual(max(len(made) for made, _ in told), 130)

    def test_all_short_runs(self):
        for seed in range(100):
            runs = some_runs(seed, many=6, most=6)
            for k in (0, 1, 2, 3, 20):
                for run in all_runs("ab", 6):
                    self.check(runs, k, run)
                self.check(list(runs), k, "abc")

    def test_no_runs_and_the_empty_run(self):
        for k in (0, 1, 20):
            self.assertIsNone(splice((), k, ""))
            self.assertIsNone(splice((), k, "a"))
            self.check(("",), k, "")
            self.check(("", "ab", "ab"), k, "ab")
        self.check(("ab",), 0, "")
        self.check(("ab", "b"), 0, "bbbabab")
        self.assertIsNone(splice(("ab",), 1, ""))

    def test_order_and_duplicates(self):
        runs = ("abcab", "cabca", "bca")
        for run in ("bcabcabca", "bcab", "abca", "cabcabcab", "ca"):
            self.check(runs, 2, run)
            self.check(runs[::-1] + runs, 2, run)

    def test_long_runs(self):
        runs = ("ab" * 32, "ba" * 32, "a" * 64)
        with without_delay(self):
            for k in (0, 1, 2, 20):
                for run in ("ab" * 32, "ab" * 31 + "a", "a" * 64, "a" * 63, "ab" * 16 + "a" * 32, "a" * 31 + "ba" * 16):
                    self.check(runs, k, run)
        runs = ("abcdef", "fedcba", "aabbccddeeff", "acebdf", "bdface") * 2 + ("abcdefabcdef" * 5,)
        with without_delay(self):
            for seed in range(60):
                for k in (0, 1, 2):
                    told = local_learn(runs, k)
                    self.check(runs, k, walk(told, seed, 50))

    def test_few_windows_for_many_letters(self):
        # each letter of the run stands in a run of its own
        runs = tuple(x + y for x in "abcdef" for y in "abcdef")
        pick = random.Random(4)
        run = "".join(pick.choice("abcdef") for _ in range(64))
        self.check(runs, 1, run)
        self.check(runs, 0, run)
        # long runs with a window for one letter each
        runs = tuple(x * 30 + y * 30 for x, y in ("ab", "bc", "ca"))
        for k in (0, 1):
            self.check(runs, k, "abc" * 21 + "a")
        for k in (2, 20):
            self.check(runs, k, "a" * 30 + "b" * 34)

    def test_the_document_is_followed_line_by_line(self):
        runs = ("abc", "cab")
        right = (("cab", ()), ("abc", ()), ("cabc", (0, 1, 3, 2)))
        self.assertIs(judge_splices(runs, 1, right, "cabc"), True)
        self.assertIs(judge_splices(runs, 2, right, "cabc"), True)
        self.assertIs(judge_splices(list(runs), 2, right, "cabc"), True)
        self.assertIs(judge_splices(runs, 3, right, "cabc"), False)
        self.assertIs(judge_splices(runs, 1, right, "cab"), False)
        self.assertIs(judge_splices(runs, 1, right[:2], "cabc"), False)
        self.assertIs(judge_splices(runs, 1, right[:2], "abc"), True)
        # a reason with lines is judged by them, also if the run is one of the runs, and a run may be told again
        self.assertIs(judge_splices(runs, 1, right + (("abc", (1, 1, 2, 2)),), "abc"), True)
        self.assertIs(judge_splices(runs, 1, right + (("abc", (1, 1, 2, 1)),), "abc"), False)
        self.assertIs(judge_splices(runs, 1, right + (("cabc", (2, 2, 4, 4)),), "cabc"), True)

    def test_wrong_lines(self):
        runs = ("abc", "cab")
        right = (("cab", ()), ("abc", ()))
        good = ("cabc", (0, 1, 3, 2))
        self.assertIs(judge_splices(runs, 1, right + (good,), "cabc"), True)
        for reason in (
            (), (0,), (0, 1), (0, 1, 3), (0, 1, 3, 2, 0), (-1, 1, 3, 2), (0, -2, 3, 2), (0, 2, 3, 2), (2, 1, 3, 2),
            (3, 1, 3, 2), (10 ** 30, 1, 3, 2), (0, 10 ** 30, 3, 2), (0, 1, -1, 2), (0, 1, 3, -1), (0, 1, 10 ** 30, 2),
            (0, 1, 3, 10 ** 30), (0, 1, 4, 2), (0, 1, 3, 4), (0, 1, 2, 2), (0, 1, 3, 1), (1, 0, 3, 2), (0, 1, 0, 0),
            (-3, -2, 3, 2), (0, 1, 3, -2),
        ):
            self.assertIs(judge_splices(runs, 1, right + (("cabc", reason),), "cabc"), False, reason)
        for made in ("", "cab", "cabcc", "cabC", "CABC", "-"):
            self.assertIs(judge_splices(runs, 1, right + ((made, good[1]),), made), False)
            self.assertIs(judge_splices(runs, 1, right + ((made, good[1]), ("cab", ())), "cab"), False)
        self.assertIs(judge_splices(runs, 1, (), "cab"), False)
        self.assertIs(judge_splices(runs, 1, (), ""), False)
        self.assertIs(judge_splices((), 0, (), ""), False)
        self.assertIs(judge_splices((), 0, (("", ()),), ""), False)
        self.assertIs(judge_splices(runs, 1, (("ab", ()),), "ab"), False)
        self.assertIs(judge_splices(runs, 1, (good,) + right, "abc"), False)
        self.assertIs(judge_splices(runs, 0, (("a", (0, 0, 0, 0)),), "a"), False)
        # the last letters in front of what is put together have to be the same
        pair = (("ab", ()), ("cd", ()))
        self.assertIs(judge_splices(("ab", "cd"), 0, pair + (("ad", (0, 1, 1, 1)),), "ad"), True)
        self.assertIs(judge_splices(("ab", "cd"), 1, pair + (("ad", (0, 1, 1, 1)),), "ad"), False)
        self.assertIs(judge_splices(("abx", "cby"), 1, (("abx", ()), ("cby", ()), ("aby", (0, 1, 2, 2))), "aby"), True)
        self.assertIs(judge_splices(("abx", "cby"), 2, (("abx", ()), ("cby", ()), ("aby", (0, 1, 2, 2))), "aby"), False)
        # fewer than k letters do not do, whatever they are
        self.assertIs(judge_splices(runs, 2, right + (("cbc", (0, 1, 1, 1)),), "cbc"), False)
        self.assertIs(judge_splices(runs, 0, right + (("cbc", (0, 1, 1, 1)),), "cbc"), True)

    def test_any_lines_are_judged_by_their_words(self):
        right = 0
        for seed in range(1500):
            pick = random.Random(seed)
            runs = some_runs(seed, many=4, most=5) + ("ab",)
            k = pick.randrange(3)
            run = walk(local_learn(runs, k), seed, pick.randrange(6))
            lines = [list(row) for row in splice(runs, k, run)]
            for _ in range(pick.randrange(3)):
                row = pick.choice(lines)
                if row[1] and pick.random() < 0.8:
                    reason = list(row[1])
                    at = pick.randrange(4)
                    reason[at] += pick.choice((-1, 1, 2))
                    row[1] = tuple(reason)
                elif pick.random() < 0.5:
                    row[0] = pick.choice(all_runs("ab", 3))
                else:
                    lines = lines[::-1]
            lines = tuple(tuple(row) for row in lines)
            wanted = splices(runs, k, lines, run)
            self.assertIs(judge_splices(runs, k, lines, run), wanted)
            right += wanted
        self.assertTrue(300 < right < 1400)

    def test_what_is_spliced_is_in_the_local_closure(self):
        for seed in range(60):
            runs = some_runs(seed, many=5, most=5)
            for k in range(3):
                told = local_learn(runs, k)
                for run in all_runs("ab", 5):
                    self.assertEqual(splice(runs, k, run) is not None, takes(told, run))
                    self.assertEqual(takes(told, run), goes_to(told, 0, run) in told[1] if told[0] else False)


if __name__ == "__main__":
    unittest.main()
