import random
import unittest

from fromruns.combining import either, meet, outside, reversed_machine
from fromruns.learning import close, first_unexplained, join, leads, learn, same_protocol, staircase
from fromruns.lots import lot
from fromruns.machines import machine_of, runs_machine, takes
from fromruns.words import backwards
from tests.closing import closure, is_closed_slowly, slow_web, some_runs, walk
from tests.reference import (
    all_runs, complaint, goes_to, has, language, line, ordered, random_web, ring, without_delay,
)

EMPTY = ((), ())
EMPTY_RUN = (((),), (0,))
ALL = (((("a", 0), ("b", 0)),), (0,))


def some_machines(many=60, size=4, arrows=7):
    machines = [EMPTY, EMPTY_RUN, ALL, line(3), ring(3), ring(3, ends=(0, 1)), runs_machine(("ab", "aab"))]
    return machines + [machine_of(random_web(seed, size=size, arrows=arrows, least=1)) for seed in range(many)]


def row_with_leads(many, letters):
    """A machine with that many states in a row, whose last state goes back to the first by the letters."""
    arrows = [(at, "a", at + 1) for at in range(many - 1)] + [(many - 1, letter, 0) for letter in letters]
    return machine_of((many, tuple(arrows), (0,), (many - 1,)))


class Learn(unittest.TestCase):
    def test_the_examples_of_the_document(self):
        self.assertEqual(learn(("ab", "aab"), 0), (((("a", 0), ("b", 1)), ()), (1,)))
        self.assertTrue(takes(learn(("ab", "aab"), 1), "aaaab"))
        self.assertFalse(takes(learn(("ab", "aab"), 2), "aaaab"))

    def test_by_corners(self):
        """The closure has what corners lead to, and only that, as far as short runs tell."""
        for seed in range(240):
            runs = some_runs(seed, many=4, most=3)
            k = seed % 4
            told = learn(runs, k)
            self.assertIsNone(complaint(told))
            wanted = closure(runs, k, 7)
            self.assertTrue(all(has(told, run) for run in wanted))
            self.assertEqual(language(told, "ab", 3), [run for run in all_runs("ab", 3) if run in wanted], (runs, k))

    def test_it_is_closed_and_has_all_runs(self):
        for seed in range(300):
            runs = some_runs(seed, many=8, most=8, letters="abc")
            for k in (0, 1, 2, 5):
                told = learn(runs, k)
                self.assertTrue(is_closed_slowly(told, k))
                self.assertTrue(all(has(told, run) for run in runs))

    def test_by_slow_merging(self):
        for seed in range(200):
            runs = some_runs(seed, many=9, most=7, letters="ab" if seed % 2 else "abc")
            for k in (0, 1, 2, 3, 7, 20):
                self.assertEqual(learn(runs, k), machine_of(slow_web(runs, k)))

    def test_by_slow_merging_as_large_as_allowed(self):
        for seed in range(4):
            runs = some_runs(seed, many=80, most=64 if seed % 2 else 4, letters="ab")[:80]
            while sum(map(len, runs)) > 200:
                runs = runs[1:]
            for k in (0, 1, 3):
                with without_delay(self):
                    self.assertEqual(learn(runs, k), machine_of(slow_web(runs, k)))

    def test_no_runs_and_the_empty_run(self):
        for k in (0, 1, 20):
            self.assertEqual(learn((), k), EMPTY)
            self.assertEqual(learn(("",), k), EMPTY_RUN)
            self.assertEqual(learn(("", ""), k), EMPTY_RUN)
        self.assertEqual(learn(("", "a"), 0), (((("a", 0),),), (0,)))
        self.assertEqual(learn(("", "a"), 1), runs_machine(("", "a")))

    def test_runs_with_at_most_k_letters_are_their_own_closure(self):
        for seed in range(60):
            runs = some_runs(seed, many=9, most=4, letters="abc")
            longest = max(map(len, runs), default=0)
            for k in (longest, longest + 1, 20):
                self.assertEqual(learn(runs, k), runs_machine(runs))
        # with one letter less this need not be so
        self.assertNotEqual(learn(("ab", "b", "bb"), 1), runs_machine(("ab", "b", "bb")))
        self.assertEqual(learn(("ab", "b", "bb"), 2), runs_machine(("ab", "b", "bb")))

    def test_runs_with_less_than_k_letters(self):
        for seed in range(60):
            runs = some_runs(seed, many=9, most=6)
            for k in range(6):
                told = learn(runs, k)
                for run in all_runs("ab", k - 1) if k else ():
                    self.assertEqual(has(told, run), run in runs)

    def test_order_duplicates_and_lists(self):
        runs = ("abab", "", "ab", "ba", "aab")
        for k in range(4):
            told = learn(runs, k)
            self.assertEqual(learn(runs[::-1] + runs, k), told)
            self.assertEqual(learn(list(runs), k), told)
            self.assertEqual(learn(tuple(ordered(runs)), k), told)

    def test_backwards(self):
        for seed in range(60):
            runs = some_runs(seed, many=6, most=6)
            for k in range(3):
                turned = learn(tuple(backwards(run) for run in runs), k)
                if len(turned[0]) <= 8:
                    self.assertEqual(learn(runs, k), reversed_machine(turned))

    def test_many_long_runs_of_a_machine_with_64_states(self):
        rows = tuple(tuple((letter, at + 1) for letter in "abcd") for at in range(60)) + ((),)
        machine = (rows, (60,))
        runs = lot(machine, 0) + tuple(walk(machine, seed, 60) for seed in range(80))
        self.assertTrue(len(runs) == 261 and sum(map(len, runs)) == 15660)
        with without_delay(self):
            self.assertEqual(learn(runs, 0), machine)
            self.assertEqual(learn(runs[::-1], 0), machine)
        rows = tuple((("a", (3 * at + 1) % 61), ("b", (5 * at + 2) % 61), ("c", (at + 7) % 61)) for at in range(61))
        machine = machine_of((61, tuple((s, x, t) for s, row in enumerate(rows) for x, t in row), (0,), (9,)))
        self.assertEqual(len(machine[0]), 61)
        runs = lot(machine, 0) + tuple(walk(machine, seed, 50) for seed in range(290 - len(lot(machine, 0))))
        self.assertTrue(sum(map(len, runs)) <= 16000 and len(runs) == 290)
        with without_delay(self):
            self.assertEqual(learn(runs, 0), machine)

    def test_16000_letters_that_all_stay_apart(self):
        runs = tuple("abcdef"[at // 36 % 6] + "abcdef"[at // 6 % 6] + "abcdef"[at % 6] + "ab" * 25 for at in range(216))
        runs += tuple(walk(ALL, seed, 60) for seed in range(84))
        self.assertTrue(len(runs) == 300 and 16000 <= sum(map(len, runs)) <= 17000)
        for k in (0, 1, 20):
            with without_delay(self, 8):
                told = learn(runs, k)
            self.assertTrue(all(takes(told, run) for run in runs))


class Close(unittest.TestCase):
    def test_of_runs(self):
        for seed in range(80):
            runs = some_runs(seed, many=7, most=6)
            for k in (0, 1, 2, 4, 20):
                self.assertEqual(close(runs_machine(runs), k), learn(runs, k))

    def test_by_corners(self):
        for machine in some_machines(50, size=3, arrows=4):
            for k in range(3):
                told = close(machine, k)
                self.assertIsNone(complaint(told))
                wanted = closure(language(machine, "ab", 7), k, 7)
                self.assertEqual(language(told, "ab", 3), [run for run in all_runs("ab", 3) if run in wanted])
                self.assertTrue(all(has(told, run) for run in wanted))

    def test_it_is_the_least_closed_one_among_many(self):
        machines = some_machines(120)
        for k in range(4):
            closed = [machine for machine in machines if is_closed_slowly(machine, k)]
            for machine in machines:
                told = close(machine, k)
                self.assertTrue(is_closed_slowly(told, k))
                self.assertIsNone(outside(machine, told))
                for other in closed:
                    if outside(machine, other) is None:
                        self.assertIsNone(outside(told, other))

    def test_what_is_closed_stays(self):
        for machine in some_machines(120):
            for k in range(4):
                told = close(machine, k)
                self.assertEqual(close(told, k), told)
                self.assertEqual(told == machine, is_closed_slowly(machine, k))
        for machine in (EMPTY, EMPTY_RUN, line(20), ring(64)):
            for k in (0, 1, 20):
                self.assertEqual(close(machine, k), machine)
        # with more letters it has more than 100 leads
        self.assertEqual([close(ALL, k) for k in range(6)], [ALL] * 6)

    def test_more_letters_have_a_smaller_closure(self):
        for machine in some_machines(60):
            told = [close(machine, k) for k in range(5)]
            for less, more in zip(told, told[1:]):
                self.assertIsNone(outside(more, less))
            for k in range(5):
                short = all_runs("ab", k - 1) if k else []
                self.assertEqual([has(told[k], run) for run in short], [has(machine, run) for run in short])

    def test_common_runs_of_closed_ones_are_closed(self):
        machines = [close(machine, 1) for machine in some_machines(30)]
        for first in machines:
            for second in machines:
                both = meet(first, second)
                self.assertEqual(close(both, 1), both)

    def test_a_ring_that_is_closed_for_no_k(self):
        machine = ring(4, ends=(0, 1))
        for k in (0, 1, 5, 20):
            told = close(machine, k)
            self.assertNotEqual(told, machine)
            self.assertTrue(is_closed_slowly(told, k))
            self.assertEqual(told, line_then_all(k))

    def test_as_large_as_allowed(self):
        machine = row_with_leads(50, "bc")
        with without_delay(self):
            for k in (0, 1, 2, 20):
                self.assertLessEqual(len(leads(machine, k)), 100)
                self.assertEqual(close(machine, k), machine)
        pick = random.Random(3)
        for letters in ("ab", "abcdef"):
            arrows = tuple((at, letter, pick.randrange(64)) for at in range(64) for letter in letters)
            machine = machine_of((64, arrows, (0,), (3, 9)))
            with without_delay(self):
                told = close(machine, 0)
            self.assertEqual(len(told[0]), 1)
            self.assertIsNone(outside(machine, told))
        arrows = tuple((at, letter, (at + step) % 64) for at in range(64) for step, letter in enumerate("abcdef"))
        machine = machine_of((64, arrows, (0,), (3,)))
        with without_delay(self):
            self.assertEqual(close(machine, 0), machine)
            self.assertEqual(len(close((machine[0], (3, 11)), 0)[0]), 8)
        with_end = (row_with_leads(50, "bc")[0], (0, 49))
        with without_delay(self):
            for k in (0, 1, 20):
                told = close(with_end, k)
                self.assertTrue(is_closed_slowly(told, k))
                self.assertIsNone(outside(with_end, told))
        self.assertEqual(close(with_end, 0), (((("a", 1), ("b", 0), ("c", 0)), *told_rows(49)), (0,)))


def line_then_all(k):
    """What a ring of four a, with ends at 0 and 1, leads to: with less than k letters as before, then all."""
    rows = tuple((("a", at + 1),) for at in range(k)) + ((("a", k),),)
    ends = tuple(at for at in range(k + 1) if at % 4 < 2 or at == k)
    return machine_of((k + 1, tuple((s, x, t) for s, row in enumerate(rows) for x, t in row), (0,), ends))


def told_rows(many):
    return tuple((("a", (at + 1) % many),) for at in range(1, many))


class Join(unittest.TestCase):
    def test_by_closing_both(self):
        machines = some_machines(25)
        for first in machines:
            for second in machines:
                for k in range(3):
                    told = join(first, second, k)
                    self.assertEqual(told, join(second, first, k))
                    self.assertEqual(told, close(either(first, second), k))
                    self.assertTrue(is_closed_slowly(told, k))
                    self.assertIsNone(outside(first, told))
                    self.assertIsNone(outside(second, told))

    def test_of_runs(self):
        for seed in range(60):
            one, other = some_runs(seed, many=4), some_runs(seed + 1000, many=4)
            for k in (0, 1, 2, 20):
                wanted = learn(one + other, k)
                self.assertEqual(join(runs_machine(one), runs_machine(other), k), wanted)
                self.assertEqual(join(learn(one, k), learn(other, k), k), wanted)

    def test_the_machine_without_states_and_the_same_twice(self):
        for machine in some_machines(30):
            for k in (0, 1, 4):
                self.assertEqual(join(machine, EMPTY, k), close(machine, k))
                self.assertEqual(join(EMPTY, machine, k), close(machine, k))
                self.assertEqual(join(machine, machine, k), close(machine, k))
        self.assertEqual(join(EMPTY, EMPTY, 3), EMPTY)

    def test_large_ones(self):
        with without_delay(self):
            # 64 states and 45 states, and at most 100 leads together
            one, other = line(63), runs_machine(("b" + "a" * 40,))
            self.assertEqual(join(one, other, 20), close(either(one, other), 20))
            self.assertEqual(join(ring(4), ring(6), 0), ring(2))
            self.assertEqual(join(ring(8), ring(12), 20), close(either(ring(8), ring(12)), 20))
            self.assertTrue(is_closed_slowly(join(ring(8), ring(12), 20), 20))


class Staircase(unittest.TestCase):
    def test_one_machine_for_each_k(self):
        for seed in range(60):
            runs = some_runs(seed, many=6, most=7)
            told = staircase(runs)
            self.assertIs(type(told), tuple)
            longest = max(map(len, runs), default=0)
            self.assertEqual(told, tuple(learn(runs, k) for k in range(longest + 1)))
            self.assertEqual(told[-1], runs_machine(runs))

    def test_edges(self):
        self.assertEqual(staircase(()), (EMPTY,))
        self.assertEqual(staircase(("",)), (EMPTY_RUN,))
        self.assertEqual(staircase(("a", "", "a")), (ring(1), runs_machine(("", "a"))))

    def test_as_large_as_allowed(self):
        runs = tuple(dict.fromkeys("ab" * at + "a" * (20 - 2 * at) for at in range(10)))
        with without_delay(self):
            told = staircase(runs)
        self.assertEqual(len(told), 21)
        self.assertEqual(told[20], runs_machine(runs))


class Leads(unittest.TestCase):
    def test_by_all_short_runs(self):
        for machine in some_machines(60):
            for k in range(4):
                found = []
                for run in all_runs("ab", 9):
                    state = goes_to(machine, 0, run) if machine[0] else None
                    lead = (state, run[len(run) - k:] if len(run) >= k else run)
                    if state is not None and lead not in found:
                        found.append(lead)
                self.assertEqual(leads(machine, k), tuple(found))

    def test_kinds(self):
        for machine in some_machines(20):
            for k in (0, 2):
                for lead in leads(machine, k):
                    self.assertEqual([type(lead), type(lead[0]), type(lead[1])], [tuple, int, str])

    def test_edges(self):
        for k in (0, 1, 20):
            self.assertEqual(leads(EMPTY, k), ())
            self.assertEqual(leads(EMPTY_RUN, k), ((0, ""),))
            self.assertEqual(leads(ring(1), k), tuple((0, "a" * at) for at in range(k + 1)))
        self.assertEqual(leads(line(2), 0), ((0, ""), (1, ""), (2, "")))
        self.assertEqual(leads(line(2), 1), ((0, ""), (1, "a"), (2, "a")))
        self.assertEqual(leads(ring(64), 0), tuple((at, "") for at in range(64)))

    def test_as_many_as_allowed(self):
        machine = row_with_leads(40, "bc")
        with without_delay(self):
            for k in range(21):
                told = leads(machine, k)
                self.assertEqual(len(told), 40 + (2 * k if k else 0), k)


class Comparing(unittest.TestCase):
    def test_first_unexplained(self):
        for seed in range(120):
            seen, runs = some_runs(seed, many=4), some_runs(seed + 500, many=6)
            for k in (0, 1, 2, 20):
                machine = machine_of(slow_web(seen, k))
                strange = [run for run in ordered(runs) if not has(machine, run)]
                self.assertEqual(first_unexplained(seen, runs, k), strange[0] if strange else None)
                self.assertEqual(first_unexplained(seen[::-1] + seen, runs[::-1] + runs, k), strange[0] if strange else None)

    def test_first_unexplained_at_the_edges(self):
        self.assertIsNone(first_unexplained((), (), 0))
        self.assertIsNone(first_unexplained(("ab",), (), 0))
        self.assertEqual(first_unexplained((), ("b", "a", "ab", ""), 0), "")
        self.assertEqual(first_unexplained(("",), ("b", "a", "ab", ""), 0), "a")
        self.assertEqual(first_unexplained(("ab", "aab"), ("aaab", "bb", "ba", "ab"), 1), "ba")
        self.assertIsNone(first_unexplained(("ab", "aab"), ("aaab", "aaaaab"), 1))
        self.assertEqual(first_unexplained(("ab", "aab"), ("aaab", "aaaaab"), 2), "aaab")

    def test_same_protocol(self):
        same = 0
        for seed in range(150):
            one, other = some_runs(seed, many=5, most=3), some_runs(seed + 700, many=5, most=3)
            for k in (0, 1, 2):
                wanted = first_unexplained(one, other, k) is None and first_unexplained(other, one, k) is None
                self.assertIs(same_protocol(one, other, k), wanted)
                same += wanted
                more = tuple(run for run in language(learn(one, k), "ab", 3))
                self.assertIs(same_protocol(one, one[::-1] + more, k), True)
        self.assertGreater(same, 10)

    def test_same_protocol_at_the_edges(self):
        for k in (0, 1, 20):
            self.assertIs(same_protocol((), (), k), True)
            self.assertIs(same_protocol((), ("",), k), False)
            self.assertIs(same_protocol(("",), ("", ""), k), True)
            self.assertIs(same_protocol(("a", "b"), ("b", "a", "b"), k), True)
        self.assertIs(same_protocol(("ab", "aab"), ("aab", "aaab", "ab"), 1), True)
        self.assertIs(same_protocol(("ab", "aab"), ("aab", "aaab", "ab"), 2), False)

    def test_as_large_as_allowed(self):
        one = tuple("a" * at for at in range(20))
        other = tuple("a" * at for at in (0, 1, 64, 40, 50))
        with without_delay(self):
            self.assertIs(same_protocol(one, other, 0), True)
            self.assertIs(same_protocol(one, other, 1), True)
            self.assertIs(same_protocol(one, other, 2), False)
            self.assertIsNone(first_unexplained(one, other, 0))
            self.assertEqual(first_unexplained(one, other, 20), "a" * 40)
            self.assertEqual(first_unexplained(other, one, 2), "aaa")


if __name__ == "__main__":
    unittest.main()
