import random
import unittest

from fromruns.classes import fault, is_bad, is_closed, judge_never, least_closed, never_paper, shared_pairs
from fromruns.combining import meet, reversed_machine
from fromruns.corners import fourth_run, judge_fault, three_runs
from fromruns.machines import letters_of, machine_of, runs_machine
from tests.reference import (
    bad_pair, closed_by_corners, complaint, has, line, pairs_sharing, random_web, ring, without_delay,
)

EMPTY = ((), ())
EMPTY_RUN = (((),), (0,))
ALL = (((("a", 0), ("b", 0)),), (0,))


def some_machines():
    machines = [EMPTY, EMPTY_RUN, ALL, line(3), ring(3), runs_machine(("ab", "aab")), runs_machine(("", "ab", "b"))]
    machines += [machine_of(random_web(seed, size=1 + seed % 5, arrows=5 + seed % 8, least=1)) for seed in range(300)]
    return [machine for machine in machines if len(machine[0]) <= 8]


def back_to_the_first(many, back, ends):
    """A row of many states with arrows a, and arrows b from some of the last states to some of the first ones."""
    arrows = [(at, "a", at + 1) for at in range(many - 1)] + [(at, "b", to) for at, to in back]
    machine = machine_of((many, tuple(arrows), (0,), ends))
    assert len(machine[0]) == many
    return machine


def turned(many, ends):
    """A row whose pairs at a distance d come, at its last state, to a pair of first states at the distance d + 1."""
    arrows = [(at, "a", at + 1) for at in range(many - 1)]
    for distance, letter in enumerate("bcdef", 1):
        arrows += [(many - 1, letter, 0), (many - 1 - distance, letter, distance + 1)]
    machine = machine_of((many, tuple(arrows), (0,), ends))
    assert len(machine[0]) == many
    return machine


class SharedPairs(unittest.TestCase):
    def test_by_all_runs_of_k_letters(self):
        for machine in some_machines():
            for k in range(6):
                told = shared_pairs(machine, k)
                self.assertEqual(told, pairs_sharing(machine, k, "ab"))
                self.assertTrue(all(type(pair) is tuple and type(pair[0]) is int for pair in told))

    def test_all_pairs_share_no_letters(self):
        self.assertEqual(shared_pairs(line(3), 0), ((0, 1), (0, 2), (0, 3), (1, 2), (1, 3), (2, 3)))
        self.assertEqual(shared_pairs(EMPTY, 0), ())
        self.assertEqual(shared_pairs(EMPTY_RUN, 0), ())

    def test_a_row(self):
        self.assertEqual(shared_pairs(line(3), 1), ((1, 2), (1, 3), (2, 3)))
        self.assertEqual(shared_pairs(line(3), 2), ((2, 3),))
        self.assertEqual(shared_pairs(line(3), 3), ())
        for k in range(21):
            self.assertEqual(len(shared_pairs(line(63), k)), (64 - k) * (63 - k) // 2)

    def test_a_ring_shares_any_number(self):
        with without_delay(self):
            for k in (0, 1, 20):
                self.assertEqual(len(shared_pairs(ring(64), k)), 64 * 63 // 2)

    def test_more_letters_are_shared_by_fewer_pairs(self):
        for machine in some_machines():
            told = [set(shared_pairs(machine, k)) for k in range(21)]
            for more, less in zip(told, told[1:]):
                self.assertTrue(less <= more)
            for k in range(20):
                if told[k] == told[k + 1]:
                    self.assertEqual(told[k], told[20])
                    break


class Bad(unittest.TestCase):
    def test_by_its_words(self):
        for machine in some_machines():
            for p in range(len(machine[0])):
                for q in range(len(machine[0])):
                    if p != q:
                        self.assertIs(is_bad(machine, p, q), bad_pair(machine, p, q))

    def test_examples(self):
        machine = runs_machine(("ab", "aab"))
        self.assertIs(is_bad(machine, 1, 2), True)
        self.assertIs(is_bad(machine, 2, 1), True)
        self.assertIs(is_bad(machine, 0, 1), False)
        self.assertIs(is_bad(machine, 2, 3), False)
        # two letters lead to the same state, but no single letter does from both
        crossed = machine_of((4, ((0, "a", 1), (0, "b", 2), (1, "a", 3), (2, "b", 3)), (0,), (3,)))
        self.assertIs(is_bad(crossed, 1, 2), False)
        self.assertIs(is_bad((line(3)[0], (0, 3)), 0, 3), True)
        self.assertIs(is_bad((line(3)[0], (0, 3)), 0, 2), False)


class Closed(unittest.TestCase):
    def test_by_corners(self):
        for machine in some_machines():
            if len(machine[0]) <= 4:
                for k in range(4):
                    self.assertIs(is_closed(machine, k), closed_by_corners(machine, k, letters_of(machine) or "a"))

    def test_by_bad_pairs(self):
        for machine in some_machines():
            for k in range(6):
                bad = [pair for pair in pairs_sharing(machine, k, "ab") if bad_pair(machine, *pair)]
                self.assertIs(is_closed(machine, k), not bad)

    def test_closed_for_every_k(self):
        for machine in (EMPTY, EMPTY_RUN, ALL, line(3), line(63), ring(64)):
            for k in range(21):
                self.assertIs(is_closed(machine, k), True)
                self.assertIsNone(fault(machine, k))
            self.assertEqual(least_closed(machine), 0)
            self.assertIsNone(never_paper(machine))

    def test_closed_from_some_k_on(self):
        machine = runs_machine(("ab", "aab"))
        self.assertEqual([is_closed(machine, k) for k in range(5)], [False, False, True, True, True])
        self.assertEqual(least_closed(machine), 2)
        for many in range(1, 21):
            machine = (line(many)[0], (many - 1, many))
            self.assertIs(is_closed(machine, many - 1), False)
            self.assertIs(is_closed(machine, many), True)
            self.assertEqual(least_closed(machine), many)

    def test_closed_for_none(self):
        for machine in (ring(3, ends=(0, 1)), runs_even_or_one(), back_to_the_first(10, [(9, 1), (8, 0)], (9, 8))):
            self.assertIsNone(complaint(machine))
            for k in range(21):
                self.assertIs(is_closed(machine, k), False)
            self.assertIsNone(least_closed(machine))

    def test_closed_for_k_is_closed_for_one_more(self):
        for machine in some_machines():
            told = [is_closed(machine, k) for k in range(21)]
            self.assertEqual(told, sorted(told))
            least = least_closed(machine)
            self.assertEqual(told, [least is not None and k >= least for k in range(21)])

    def test_common_runs_and_runs_backwards_stay_closed(self):
        machines = some_machines()[:70]
        for first in machines:
            for k in range(3):
                if is_closed(first, k):
                    self.assertTrue(is_closed(reversed_machine(first), k))
                    for second in machines:
                        if is_closed(second, k):
                            self.assertTrue(is_closed(meet(first, second), k))

    def test_least_numbers_beyond_20(self):
        with without_delay(self):
            for many in (24, 40, 64):
                machine = back_to_the_first(many, [(many - 1, 0)], (many - 1, many - 2))
                self.assertEqual(least_closed(machine), many - 1)
                machine = back_to_the_first(many, [(many - 1, 0), (many - 2, 0)], (many - 1,))
                self.assertEqual(least_closed(machine), many - 1)
                self.assertIs(is_closed(machine, 20), False)
                self.assertIsNone(never_paper(machine))

    def test_a_least_number_beyond_the_number_of_states(self):
        machine = turned(40, (39, 33))
        with without_delay(self):
            least = least_closed(machine)
        self.assertGreater(least, 200)
        self.assertFalse(is_closed(machine, least - 1))
        self.assertTrue(is_closed(machine, least))
        self.assertTrue(judge_fault(machine, least - 1, fault(machine, least - 1)))
        self.assertIsNone(never_paper(machine))


def runs_even_or_one():
    """a^i b and c a^j b with i even and j odd: two states share any number of letters a, both go to one by b."""
    arrows = ((0, "a", 1), (1, "a", 2), (2, "a", 1), (0, "b", 3), (2, "b", 3), (0, "c", 4), (4, "a", 5), (5, "a", 4))
    return machine_of((6, (*arrows, (5, "b", 3), (4, "d", 3)), (0,), (3,)))


class Fault(unittest.TestCase):
    def check(self, machine, k):
        told = fault(machine, k)
        if is_closed(machine, k):
            self.assertIsNone(told)
            return
        self.assertIs(type(told), tuple)
        self.assertEqual([type(part) for part in told], [str] * 5)
        self.assertEqual(len(told[2]), k)
        self.assertLessEqual(max(map(len, told)), len(machine[0]) + k)
        self.assertTrue(all(has(machine, run) for run in three_runs(told)))
        self.assertFalse(has(machine, fourth_run(told)))
        self.assertIs(judge_fault(machine, k, told), True)

    def test_small_machines(self):
        for machine in some_machines():
            for k in (0, 1, 2, 3, 7, 20):
                self.check(machine, k)
        for seed in range(60):
            self.check(machine_of(random_web(seed, size=5, letters="abc", arrows=12, least=1)), seed % 6)

    def test_rows_with_arrows_back(self):
        with without_delay(self):
            for many in (30, 40, 64):
                ends = (many - 1, many - 2)
                for back in ([(many - 1, 0)], [(many - 1, 1), (many - 2, 0)], [(many - 1, 0), (many - 2, 1)]):
                    for k in (0, 1, 19, 20):
                        self.check(back_to_the_first(many, back, ends), k)
            for k in (0, 20):
                self.check(turned(40, (39, 33)), k)

    def test_64_states_and_6_letters(self):
        pick = random.Random(9)
        rows = tuple((at, letter, pick.randrange(64)) for at in range(64) for letter in "abcdef")
        machine = machine_of((64, rows, (0,), (3, 9)))
        with without_delay(self):
            for k in (0, 1, 5, 20):
                self.check(machine, k)
            self.assertEqual(least_closed(machine) is None, never_paper(machine) is not None)


class Never(unittest.TestCase):
    def rightly(self, machine, paper):
        """The words of point [17], one after the other."""
        many = len(machine[0])
        if any(not 0 <= p < q < many for p, q in paper) or list(paper) != sorted(set(paper)):
            return False
        if not any(bad_pair(machine, p, q) for p, q in paper):
            return False
        led = set()
        for p, q in paper:
            for letter, there in machine[0][p]:
                other = dict(machine[0][q]).get(letter)
                led |= {(there, other), (other, there)} if other is not None else set()
        return all(pair in led for pair in paper)

    def test_exactly_one_is_none(self):
        with_paper = 0
        for machine in some_machines():
            paper = never_paper(machine)
            self.assertEqual(paper is None, least_closed(machine) is not None)
            if paper is not None:
                with_paper += 1
                self.assertIs(type(paper), tuple)
                self.assertTrue(self.rightly(machine, paper))
                self.assertIs(judge_never(machine, paper), True)
        self.assertGreater(with_paper, 20)

    def test_wrong_papers(self):
        machine = ring(4, ends=(0, 1))
        paper = ((0, 1), (0, 3), (1, 2), (2, 3))
        self.assertIs(judge_never(machine, paper), True)
        for at in range(4):
            self.assertIs(judge_never(machine, paper[:at] + paper[at + 1:]), False)
        self.assertIs(judge_never(machine, paper + ((2, 3),)), False)
        self.assertIs(judge_never(machine, paper[::-1]), False)
        self.assertIs(judge_never(machine, ((1, 0), *paper[1:])), False)
        self.assertIs(judge_never(machine, ((0, 0), *paper)), False)
        self.assertIs(judge_never(machine, (*paper, (2, 4))), False)
        self.assertIs(judge_never(machine, (*paper, (3, 10 ** 30))), False)
        self.assertIs(judge_never(machine, (*paper, (10 ** 30, 10 ** 30 + 1))), False)
        self.assertIs(judge_never(machine, ((-1, 0), *paper)), False)
        self.assertIs(judge_never(machine, ((-4, -3), *paper)), False)
        self.assertIs(judge_never(machine, ()), False)
        # each pair comes of one of these, but none is bad
        self.assertIs(judge_never(machine, ((0, 2), (1, 3))), False)
        self.assertIs(judge_never(machine, ((0, 1), (0, 2), (0, 3), (1, 2), (1, 3), (2, 3))), True)

    def test_a_pair_that_comes_of_itself(self):
        # a leads from 1 and 2 to themselves, b from both to the end
        machine = machine_of(
            (4, ((0, "a", 1), (0, "b", 2), (1, "a", 1), (2, "a", 2), (1, "b", 3), (2, "b", 3), (1, "c", 3)), (0,), (3,))
        )
        self.assertIs(judge_never(machine, ((1, 2),)), True)
        self.assertIs(judge_never(machine, ((2, 1),)), False)
        self.assertIs(judge_never(machine, ((0, 1), (1, 2))), False)

    def test_a_pair_that_comes_the_other_way_round(self):
        machine = ring(2, ends=(0,))
        arrows = ((0, "a", 1), (1, "a", 0), (0, "b", 2), (1, "b", 2), (0, "c", 2))
        machine = machine_of((3, arrows, (0,), (2,)))
        self.assertIs(judge_never(machine, ((0, 1),)), True)

    def test_all_papers_of_small_machines(self):
        for machine in some_machines():
            many = len(machine[0])
            if many > 3:
                continue
            pairs = [(p, q) for p in range(-1, many + 1) for q in range(-1, many + 1)]
            pick = random.Random(many)
            papers = [tuple(sorted(pick.sample(pairs, pick.randrange(4)))) for _ in range(60)]
            papers += [tuple(pair for at, pair in enumerate(((0, 1), (0, 2), (1, 2))) if n >> at & 1) for n in range(8)]
            for paper in papers:
                self.assertIs(judge_never(machine, paper), self.rightly(machine, paper))

    def test_the_machine_without_states(self):
        for machine in (EMPTY, EMPTY_RUN, ALL):
            for paper in ((), ((0, 1),), ((0, 0),), ((-1, 0),), ((5, 6), (5, 7))):
                self.assertIs(judge_never(machine, paper), False)

    def test_64_states(self):
        machine = ring(64, ends=(0, 1))
        with without_delay(self):
            paper = never_paper(machine)
            self.assertIs(judge_never(machine, paper), True)
            for at in (0, 100, len(paper) - 1):
                # a ring leads each pair to one pair, so without one of them the next one comes of none
                self.assertIs(judge_never(machine, paper[:at] + paper[at + 1:]), False)
            machine = back_to_the_first(64, [(63, 1), (62, 0)], (63, 62))
            self.assertIs(judge_never(machine, never_paper(machine)), True)


if __name__ == "__main__":
    unittest.main()
