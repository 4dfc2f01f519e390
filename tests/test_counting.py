import random
import unittest

from fromruns.counting import count_runs, each_run, is_finite, nth_run, number_of, short_runs
from fromruns.machines import machine_of, runs_machine, takes
from tests.reference import all_runs, language, line, random_web, ring, without_delay

EMPTY = ((), ())
EMPTY_RUN = (((),), (0,))
ALL = (((("a", 0), ("b", 0)),), (0,))  # all runs of a and b


def row_with_arrows_back(many, back):
    """A row of many states with arrows a, and arrows b from the states of back to the first ones."""
    arrows = [(at, "a", at + 1) for at in range(many - 1)] + [(at, "b", to) for at, to in back]
    return machine_of((many, tuple(arrows), (0,), (many - 1,)))


def some_machines():
    machines = [EMPTY, EMPTY_RUN, ALL, line(5), ring(3), runs_machine(("", "ab", "b", "bba"))]
    machines += [machine_of(random_web(seed, size=1 + seed % 5, arrows=9, least=1)) for seed in range(80)]
    return machines


class Counting(unittest.TestCase):
    def test_all_runs_of_each_length(self):
        for machine in some_machines():
            runs = language(machine, "ab", 8)
            for letters in range(9):
                self.assertEqual(count_runs(machine, letters), sum(len(run) == letters for run in runs))
                self.assertIs(type(count_runs(machine, letters)), int)

    def test_the_machine_without_states_takes_no_run(self):
        for letters in (0, 1, 200):
            self.assertEqual(count_runs(EMPTY, letters), 0)
        self.assertEqual(count_runs(EMPTY_RUN, 0), 1)
        self.assertEqual(count_runs(EMPTY_RUN, 1), 0)

    def test_200_letters(self):
        with without_delay(self):
            self.assertEqual(count_runs(ALL, 200), 2 ** 200)
            six = (tuple(tuple((letter, (at + 1) % 64) for letter in "abcdef") for at in range(64)), (8,))
            self.assertEqual(count_runs(six, 200), 6 ** 200)
            self.assertEqual(count_runs(six, 199), 0)

    def test_a_row_with_an_arrow_back(self):
        machine = row_with_arrows_back(64, [(63, 0)])
        self.assertEqual([count_runs(machine, letters) for letters in (62, 63, 64, 127, 191)], [0, 1, 0, 1, 1])

    def test_many_ways_back(self):
        machine = row_with_arrows_back(64, [(at, 0) for at in range(64)])
        # a run is what is made of parts a^i b with i up to 63, then a^63
        ways = [1]
        for many in range(1, 138):
            ways.append(sum(ways[max(0, many - 64):many]))
        self.assertEqual([count_runs(machine, 63 + many) for many in range(138)], ways)


class EachRun(unittest.TestCase):
    def test_in_order(self):
        for machine in some_machines():
            for letters in (0, 1, 2, 7):
                self.assertEqual(list(each_run(machine, letters)), language(machine, "ab", letters))

    def test_the_machine_without_states(self):
        self.assertEqual(list(each_run(EMPTY, 200)), [])
        self.assertEqual(list(each_run(EMPTY_RUN, 200)), [""])

    def test_two_walks_side_by_side(self):
        machine = runs_machine(("", "a", "ab", "b", "bba"))
        one, other = iter(each_run(machine, 3)), iter(each_run(machine, 3))
        self.assertEqual([next(one), next(one), next(other), next(one)], ["", "a", "", "b"])
        self.assertEqual(list(other), ["a", "b", "ab", "bba"])
        self.assertEqual(list(one), ["ab", "bba"])
        walk = each_run(ALL, 3)
        self.assertEqual([(run, len(list(each_run(ALL, len(run))))) for run in walk][-1], ("bbb", 15))

    def test_2000_runs_of_up_to_200_letters(self):
        with without_delay(self):
            self.assertEqual(list(each_run(ring(1), 200)), ["a" * many for many in range(201)])
        # a^i b a^j with up to 62 letters: 1953 runs
        machine = (((("a", 0), ("b", 1)), (("a", 1),)), (1,))
        with without_delay(self):
            runs = list(each_run(machine, 62))
        self.assertEqual(len(runs), 62 * 63 // 2)
        self.assertEqual(runs[:4], ["b", "ab", "ba", "aab"])
        self.assertEqual(runs[-1], "b" + "a" * 61)

    def test_beginnings_that_lead_on_too_far_cost_nothing(self):
        # the beginnings are all runs of six letters, but few runs end within 70 letters
        rows = tuple(tuple((letter, at + 1) for letter in "abcdef") for at in range(30))
        rows += tuple((("a", at + 1),) for at in range(30, 63)) + ((),)
        machine = ((((*rows[0], ("g", 63)),) + rows[1:]), (63,))
        with without_delay(self):
            self.assertEqual(list(each_run(machine, 62)), ["g"])

    def test_rows_with_arrows_back(self):
        machine = row_with_arrows_back(64, [(63, 0), (62, 1)])
        with without_delay(self):
            runs = list(each_run(machine, 200))
        self.assertEqual(runs[:2], ["a" * 63, "a" * 62 + "b" + "a" * 62])
        self.assertEqual(len(runs), sum(count_runs(machine, letters) for letters in range(201)))
        self.assertTrue(all(takes(machine, run) for run in runs))


class ShortRuns(unittest.TestCase):
    def test_without_first(self):
        for machine in some_machines():
            self.assertEqual(short_runs(machine, 5), tuple(language(machine, "ab", 5)))

    def test_with_first(self):
        for machine in some_machines():
            for first in ("", "a", "b", "ab", "bba", "abababa", "c"):
                told = short_runs(machine, 6, first=first)
                self.assertEqual(told, tuple(run for run in language(machine, "ab", 6) if run.startswith(first)))
                self.assertIs(type(told), tuple)

    def test_the_run_itself_is_told(self):
        machine = runs_machine(("ab", "abb", "b"))
        self.assertEqual(short_runs(machine, 3, first="ab"), ("ab", "abb"))
        self.assertEqual(short_runs(machine, 2, first="abb"), ())
        self.assertEqual(short_runs(EMPTY, 3, first="a"), ())
        self.assertEqual(short_runs(EMPTY, 3), ())

    def test_2000_runs(self):
        machine = (((("a", 0), ("b", 1)), (("a", 1),)), (1,))
        with without_delay(self):
            self.assertEqual(len(short_runs(machine, 62, first="a" * 32)), 30 * 31 // 2)
            self.assertEqual(short_runs(ring(1), 200, first="a" * 64)[0], "a" * 64)


class NumberedRuns(unittest.TestCase):
    def test_nth_run(self):
        for machine in some_machines():
            runs = language(machine, "ab", 9)
            for number, run in enumerate(runs[:101]):
                self.assertEqual(nth_run(machine, number), run)
            if is_finite(machine):
                self.assertIsNone(nth_run(machine, len(runs)))
                self.assertIsNone(nth_run(machine, 100))

    def test_nth_run_of_small_machines(self):
        self.assertIsNone(nth_run(EMPTY, 0))
        self.assertEqual(nth_run(EMPTY_RUN, 0), "")
        self.assertIsNone(nth_run(EMPTY_RUN, 1))
        self.assertEqual([nth_run(ALL, number) for number in range(8)], ["", "a", "b", "aa", "ab", "ba", "bb", "aaa"])

    def test_number_of_counts_what_comes_before(self):
        for machine in some_machines():
            runs = language(machine, "ab", 6)
            for run in all_runs("abc", 3) + all_runs("ab", 6):
                before = sum((len(told), told) < (len(run), run) for told in runs)
                self.assertEqual(number_of(machine, run), before)
                self.assertIs(type(number_of(machine, run)), int)

    def test_number_of_runs_that_are_not_taken(self):
        machine = runs_machine(("b", "ab", "cc"))
        for run, number in (("", 0), ("a", 0), ("b", 0), ("c", 1), ("aa", 1), ("az", 2), ("cd", 3), ("aaa", 3)):
            self.assertEqual(number_of(machine, run), number)
        self.assertEqual(number_of(EMPTY, ""), 0)
        self.assertEqual(number_of(EMPTY, "ab"), 0)
        self.assertEqual(number_of(ALL, "z" * 64), 2 ** 65 - 1)

    def test_they_undo_each_other(self):
        machines = [machine for machine in some_machines() if not is_finite(machine)]
        machines += [row_with_arrows_back(64, [(63, 0), (62, 1), (40, 3)]), ring(64), ring(64, ends=(0, 5, 7))]
        with without_delay(self, 60):
            for machine in machines:
                for number in (0, 1, 2, 50, 99, 100):
                    run = nth_run(machine, number)
                    self.assertTrue(takes(machine, run))
                    self.assertEqual(number_of(machine, run), number)
        for machine in some_machines():
            for run in language(machine, "ab", 5):
                if number_of(machine, run) <= 100:
                    self.assertEqual(nth_run(machine, number_of(machine, run)), run)

    def test_long_runs_with_small_numbers(self):
        with without_delay(self):
            self.assertEqual(nth_run(ring(64), 100), "a" * 6400)
            self.assertEqual(nth_run(line(63), 0), "a" * 63)
            self.assertIsNone(nth_run(line(63), 1))

    def test_runs_of_64_letters(self):
        with without_delay(self):
            self.assertEqual(number_of(ALL, "b" * 64), 2 ** 65 - 2)
            self.assertEqual(number_of(line(63), "a" * 64), 1)
            self.assertEqual(number_of(row_with_arrows_back(64, [(63, 0)]), "a" * 63 + "b"), 1)


class IsFinite(unittest.TestCase):
    def test_finite_machines(self):
        pick = random.Random(2)
        for _ in range(30):
            runs = tuple("".join(pick.choice("ab") for _ in range(pick.randrange(6))) for _ in range(pick.randrange(5)))
            self.assertIs(is_finite(runs_machine(runs)), True)
        self.assertIs(is_finite(EMPTY), True)
        self.assertIs(is_finite(EMPTY_RUN), True)
        self.assertIs(is_finite(line(63)), True)
        wide = tuple(tuple((letter, at + 1) for letter in "abcdef") for at in range(63)) + ((),)
        with without_delay(self):
            self.assertIs(is_finite((wide, tuple(range(64)))), True)

    def test_infinite_machines(self):
        self.assertIs(is_finite(ALL), False)
        for many in (1, 2, 63, 64):
            self.assertIs(is_finite(ring(many)), False)
        for back in ([(63, 0)], [(63, 62)], [(1, 0)], [(62, 62)]):
            self.assertIs(is_finite(row_with_arrows_back(64, back)), False)

    def test_by_counting(self):
        for machine in some_machines():
            many = len(machine[0])
            long = sum(count_runs(machine, letters) for letters in range(many, 2 * many + 1))
            self.assertIs(is_finite(machine), long == 0)


if __name__ == "__main__":
    unittest.main()
