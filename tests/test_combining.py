import random
import unittest

from fromruns.combining import either, followed, many, meet, outside, parting, reversed_machine, without
from fromruns.counting import is_finite
from fromruns.machines import letters_of, machine_of, runs_machine, takes
from tests.reference import all_runs, complaint, has, language, line, random_web, ring, without_delay

EMPTY = ((), ())
EMPTY_RUN = (((),), (0,))
ALL = (((("a", 0), ("b", 0)),), (0,))
# eight states; the machine of all runs made of its runs has 64
MANY_64 = (
    (
        (("a", 1), ("b", 2), ("c", 3)),
        (("a", 2), ("b", 2), ("c", 0)),
        (("a", 2), ("b", 4), ("c", 5)),
        (("a", 0), ("b", 5), ("c", 2)),
        (("a", 3), ("b", 1), ("c", 2)),
        (("a", 1), ("b", 6), ("c", 6)),
        (("a", 7), ("b", 3), ("c", 2)),
        (("a", 7), ("b", 6), ("c", 2)),
    ),
    (6,),
)
# eight states; the reversed machine has 64
REVERSED_64 = (
    (
        (("a", 1), ("b", 2), ("c", 3)),
        (("a", 2), ("b", 1), ("c", 4)),
        (("a", 2), ("b", 5), ("c", 1)),
        (("a", 6), ("b", 2), ("c", 7)),
        (("a", 7), ("b", 3), ("c", 7)),
        (("c", 1),),
        (("a", 0), ("b", 7), ("c", 3)),
        (("a", 4), ("b", 7), ("c", 4)),
    ),
    (2, 5),
)


def some_machines():
    """Machines of a and b, of a alone, of b and c, of c and d, and the smallest ones."""
    machines = [EMPTY, EMPTY_RUN, ALL, line(2), ring(3), line(2, "b"), runs_machine(("", "ab", "b", "bba"))]
    machines += [machine_of(random_web(seed, size=3, arrows=7, least=1)) for seed in range(8)]
    machines += [machine_of(random_web(seed, size=4, arrows=9, least=1)) for seed in range(20, 26)]
    machines += [machine_of(random_web(seed, size=3, letters="bc", arrows=7, least=1)) for seed in range(40, 46)]
    machines += [machine_of(random_web(seed, size=3, letters="cd", arrows=7, least=1)) for seed in range(60, 64)]
    return machines


def comet(period, letter):
    """The machine of the runs a^i and the letter, i a multiple of the period, and of the run c."""
    arrows = tuple((at, "a", (at + 1) % period) for at in range(period))
    arrows += ((0, letter, period), (period + 1, "c", period))
    return machine_of((period + 2, arrows, (0, period + 1), (period,)))


class Combined(unittest.TestCase):
    """Each machine is compared, run by run, with what point [10] tells."""

    most = 5

    def check(self, machine, wanted, letters, most=None):
        self.assertIsNone(complaint(machine))
        for run in all_runs(letters, self.most if most is None else most):
            self.assertEqual(has(machine, run), wanted(run), run)
        return machine

    def pairs(self):
        for first in some_machines():
            for second in some_machines():
                yield first, second, "".join(sorted(set(letters_of(first) + letters_of(second)))) or "a"


class Sets(Combined):
    def check_all(self, function, wanted):
        for first, second, letters in self.pairs():
            most = 5 if len(letters) < 4 else 4
            self.check(function(first, second), lambda run: wanted(has(first, run), has(second, run)), letters, most)

    def test_meet(self):
        self.check_all(meet, lambda one, other: one and other)

    def test_either(self):
        self.check_all(either, lambda one, other: one or other)

    def test_without(self):
        self.check_all(without, lambda one, other: one and not other)

    def test_laws(self):
        for first, second, _ in self.pairs():
            self.assertEqual(meet(first, second), meet(second, first))
            self.assertEqual(either(first, second), either(second, first))
            self.assertEqual(without(first, second), without(first, meet(first, second)))
            self.assertEqual(either(without(first, second), meet(first, second)), first)

    def test_the_same_machine_twice_and_the_machine_without_states(self):
        for machine in some_machines() + [MANY_64, REVERSED_64, line(63), ring(64)]:
            self.assertEqual(meet(machine, machine), machine)
            self.assertEqual(either(machine, machine), machine)
            self.assertEqual(without(machine, machine), EMPTY)
            self.assertEqual(meet(machine, EMPTY), EMPTY)
            self.assertEqual(meet(EMPTY, machine), EMPTY)
            self.assertEqual(either(machine, EMPTY), machine)
            self.assertEqual(either(EMPTY, machine), machine)
            self.assertEqual(without(machine, EMPTY), machine)
            self.assertEqual(without(EMPTY, machine), EMPTY)

    def test_hundreds_of_pairs_and_a_small_result(self):
        first, second = comet(23, "b"), comet(27, "d")
        c = runs_machine(("c",))
        with without_delay(self):
            self.assertEqual(meet(first, second), c)
            self.assertEqual(len(without(first, second)[0]), 24)
            self.assertIsNone(complaint(without(second, first)))
            self.assertEqual(either(without(first, second), c), first)
        big = comet(61, "b"), comet(62, "d")
        with without_delay(self):
            self.assertEqual(meet(*big), c)
            self.assertEqual(outside(*big), "b")

    def test_results_near_64_states(self):
        with without_delay(self):
            told = meet(ring(8), ring(7))
            self.assertEqual(told, ring(56))
            self.assertEqual(meet(ring(63), line(63)), line(63))
            told = either(line(63), line(62))
            self.assertEqual(told, (line(63)[0], (62, 63)))
            self.assertEqual(without(told, line(62)), line(63))
            told = either(ring(9), ring(7))
            self.assertIsNone(complaint(told))
            self.assertEqual(len(told[0]), 63)

    def test_6_letters_and_64_states(self):
        wheel = (tuple(tuple((letter, (at + 1) % 64) for letter in "abcdef") for at in range(64)), (8,))
        other = (wheel[0], (9,))
        with without_delay(self):
            self.assertEqual(meet(wheel, other), EMPTY)
            self.assertEqual(either(wheel, other), (wheel[0], (8, 9)))
            self.assertEqual(without(wheel, other), wheel)
            self.assertEqual(outside(wheel, other), "a" * 8)


class Followed(Combined):
    def wanted(self, first, second):
        return lambda run: any(has(first, run[:at]) and has(second, run[at:]) for at in range(len(run) + 1))

    def test_all_pairs(self):
        for first, second, letters in self.pairs():
            most = 5 if len(letters) < 3 else 4
            self.check(followed(first, second), self.wanted(first, second), letters, most)

    def test_the_smallest_machines(self):
        for machine in some_machines():
            self.assertEqual(followed(machine, EMPTY), EMPTY)
            self.assertEqual(followed(EMPTY, machine), EMPTY)
            self.assertEqual(followed(machine, EMPTY_RUN), machine)
            self.assertEqual(followed(EMPTY_RUN, machine), machine)

    def test_both_orders(self):
        self.assertEqual(followed(line(2), line(1, "b")), runs_machine(("aab",)))
        self.assertEqual(followed(line(1, "b"), line(2)), runs_machine(("baa",)))

    def test_near_64_states(self):
        with without_delay(self):
            self.assertEqual(followed(line(56), line(7)), line(63))
            self.assertEqual(followed(ring(57), line(6))[0][0], (("a", 1),))
            told = followed((line(56)[0], tuple(range(57))), line(7))
            self.assertEqual(told, (line(63)[0], tuple(range(7, 64))))
            self.assertEqual(len(followed(ALL, runs_machine(("abbabba",)))[0]), 8)

    def test_a_run_of_the_first_in_many_places(self):
        # the sixth letter from the end is a: 64 states
        second = machine_of(
            (7, tuple((at, letter, at + 1) for at in range(6) for letter in "ab" if at or letter == "a"), (0,), (6,))
        )
        with without_delay(self):
            told = followed(ALL, second)
        self.assertEqual(len(told[0]), 64)
        self.check(told, lambda run: run[-6:-5] == "a", "ab", 9)

    def test_hundreds_of_places_and_a_small_result(self):
        for one, other in ((9, 7), (8, 7), (7, 8), (11, 5)):
            sums = {one * i + other * j for i in range(20) for j in range(20)}
            last = one * other - one - other
            rows = tuple((("a", min(at + 1, last + 1)),) for at in range(last + 2))
            wanted = (rows, tuple(at for at in range(last + 2) if at in sums))
            with without_delay(self):
                self.assertEqual(followed(ring(one), ring(other)), wanted)

    def test_64_states_and_8_states(self):
        second = REVERSED_64
        first = (line(55)[0], tuple(range(0, 56, 5)))
        with without_delay(self):
            told = followed(first, second)
        self.assertIsNone(complaint(told))
        for run in language(second, "abc", 4):
            for many_as in (0, 5, 55):
                self.assertTrue(has(told, "a" * many_as + run))


class Many(Combined):
    def wanted(self, machine):
        def taken(run):
            good = [True]
            for end in range(1, len(run) + 1):
                good.append(any(good[at] and has(machine, run[at:end]) for at in range(end)))
            return good[-1]

        return taken

    def test_all(self):
        for machine in some_machines():
            self.check(many(machine), self.wanted(machine), letters_of(machine) or "a", 7 if machine[0] else 1)

    def test_the_smallest_machines(self):
        self.assertEqual(many(EMPTY), EMPTY_RUN)
        self.assertEqual(many(EMPTY_RUN), EMPTY_RUN)
        self.assertEqual(many(ALL), ALL)
        self.assertEqual(many(line(1)), ring(1))
        self.assertEqual(many(line(3)), ring(3))
        self.assertEqual(many(runs_machine(("", "aaa"))), ring(3))

    def test_many_of_many(self):
        for machine in some_machines():
            told = many(machine)
            self.assertTrue(takes(told, ""))
            if len(told[0]) <= 8:
                self.assertEqual(many(told), told)

    def test_64_states(self):
        with without_delay(self):
            told = many(MANY_64)
        self.assertEqual(len(told[0]), 64)
        self.check(told, self.wanted(MANY_64), "abc", 7)


class Reversed(Combined):
    def test_all(self):
        for machine in some_machines():
            self.check(reversed_machine(machine), lambda run: has(machine, run[::-1]), letters_of(machine) or "a", 7)

    def test_the_smallest_machines(self):
        self.assertEqual(reversed_machine(EMPTY), EMPTY)
        self.assertEqual(reversed_machine(EMPTY_RUN), EMPTY_RUN)
        self.assertEqual(reversed_machine(line(7)), line(7))
        self.assertEqual(reversed_machine(runs_machine(("abc", "b"))), runs_machine(("cba", "b")))

    def test_reversed_twice(self):
        for machine in some_machines():
            self.assertEqual(reversed_machine(reversed_machine(machine)), machine)

    def test_64_states(self):
        with without_delay(self):
            told = reversed_machine(REVERSED_64)
            self.assertEqual(reversed_machine(told), REVERSED_64)
        self.assertEqual(len(told[0]), 64)
        self.check(told, lambda run: has(REVERSED_64, run[::-1]), "abc", 7)


class Apart(unittest.TestCase):
    def first(self, first, second, letters, wanted):
        return next((run for run in all_runs(letters, 9) if wanted(has(first, run), has(second, run))), None)

    def test_outside_all_pairs(self):
        machines = [machine for machine in some_machines() if set(letters_of(machine)) <= set("ab")]
        for first in machines:
            for second in machines:
                told = outside(first, second)
                self.assertEqual(told, self.first(first, second, "ab", lambda one, other: one and not other))
                self.assertEqual(told is None, without(first, second) == EMPTY)

    def test_parting_all_pairs(self):
        machines = [machine for machine in some_machines() if set(letters_of(machine)) <= set("ab")]
        for first in machines:
            for second in machines:
                told = parting(first, second)
                self.assertEqual(told, self.first(first, second, "ab", lambda one, other: one != other))
                self.assertEqual(told is None, first == second)
                self.assertEqual(told, parting(second, first))

    def test_other_letters(self):
        self.assertEqual(outside(runs_machine(("c", "ab")), runs_machine(("b", "ab"))), "c")
        self.assertEqual(parting(runs_machine(("c", "ab")), runs_machine(("b", "ab"))), "b")
        self.assertEqual(outside(runs_machine(("cd",)), ALL), "cd")

    def test_one_within_the_other(self):
        self.assertIsNone(outside(runs_machine(("ab", "b")), ALL))
        self.assertEqual(outside(ALL, runs_machine(("", "a", "b"))), "aa")
        self.assertIsNone(outside(ring(6), ring(3)))
        self.assertEqual(outside(ring(3), ring(6)), "aaa")

    def test_the_machine_without_states(self):
        self.assertIsNone(outside(EMPTY, EMPTY))
        self.assertIsNone(parting(EMPTY, EMPTY))
        self.assertIsNone(outside(EMPTY, ALL))
        self.assertEqual(outside(EMPTY_RUN, EMPTY), "")
        self.assertEqual(parting(EMPTY, EMPTY_RUN), "")
        self.assertEqual(parting(line(63), EMPTY), "a" * 63)

    def test_one_end_alone(self):
        rows = line(63)[0]
        self.assertEqual(parting((rows, (5, 9, 63)), (rows, (5, 63))), "a" * 9)
        self.assertEqual(outside((rows, (5, 9, 63)), (rows, (5, 63))), "a" * 9)
        self.assertIsNone(outside((rows, (5, 63)), (rows, (5, 9, 63))))

    def test_first_runs_of_more_than_200_letters(self):
        for one, other in ((23, 27), (61, 62), (63, 64)):
            without_one = (ring(other)[0], tuple(at for at in range(other) if at != 1))
            self.assertIsNone(complaint(without_one))
            wanted = next(at for at in range(one * other) if at % one == 0 and at % other == 1)
            with without_delay(self):
                self.assertEqual(outside(ring(one), without_one), "a" * wanted)
            self.assertGreater(wanted, 200)
        with without_delay(self):
            self.assertIsNone(outside(ring(62), (ring(64)[0], tuple(range(0, 64, 2)))))

    def test_long_partings(self):
        # both take a^i unless i leaves a certain rest, and differ first at the end of the first round
        one = (ring(63)[0], tuple(range(62)))
        other = (ring(64)[0], tuple(range(62)))
        with without_delay(self):
            self.assertEqual(parting(one, other), "a" * 63)
            self.assertEqual(parting(ring(63, ends=(0,)), line(63)), "")

    def test_the_longest_partings_of_two_rings(self):
        # Which a^i are taken has the periods 63 and 64 for i up to 124; that leaves two kinds of i.
        kinds = list(range(125))
        for period in (63, 64) * 125:
            for at in range(125 - period):
                kinds[at] = kinds[at + period] = min(kinds[at], kinds[at + period])
        self.assertEqual(len(set(kinds)), 2)
        one = ring(63, ends=[at for at in range(63) if kinds[at] == kinds[0]])
        other = ring(64, ends=[at for at in range(64) if kinds[at] == kinds[0]])
        self.assertIsNone(complaint(one))
        self.assertIsNone(complaint(other))
        with without_delay(self):
            self.assertEqual(parting(one, other), "a" * 125)
            self.assertEqual(parting(other, one), "a" * 125)

    def test_pairs_at_random(self):
        pick = random.Random(4)
        for seed in range(40):
            first = machine_of(random_web(seed, size=4, letters="abc", arrows=10, least=1))
            runs = tuple(pick.choice(language(first, "abc", 4) or [""]) for _ in range(3))
            second = without(first, runs_machine(runs))
            gone = [run for run in runs if takes(first, run)]
            wanted = min(gone, key=lambda run: (len(run), run), default=None)
            self.assertEqual(outside(first, second), wanted)
            self.assertEqual(parting(second, first), wanted)
            self.assertIsNone(outside(second, first))
            self.assertTrue(is_finite(without(first, second)))


if __name__ == "__main__":
    unittest.main()
