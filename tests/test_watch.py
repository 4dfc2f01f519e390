import random
import unittest

from fromruns.errors import FromrunsError, NothingToUndo
from fromruns.machines import machine_of, runs_machine
from fromruns.watch import Watch
from tests.reference import all_runs, goes_to, has, has_state, line, random_web, ring, without_delay

EMPTY = ((), ())
EMPTY_RUN = (((),), (0,))


def told(watch):
    """All that a watch tells."""
    return watch.left(), watch.may_end(), watch.may_follow()


def wanted(machine, run):
    """Point [28], by its words, for the letters so far."""
    left = next((at for at in range(len(run) + 1) if not has_state(machine, run[:at])), None)
    follow = "".join(letter for letter in "abcdef" if has_state(machine, run + letter))
    return left, has(machine, run), follow


def some_machines():
    machines = [EMPTY, EMPTY_RUN, line(3), ring(3), ring(3, ends=(0, 1)), runs_machine(("ab", "aab", "cb", ""))]
    return machines + [machine_of(random_web(seed, letters="abc", arrows=8, least=1)) for seed in range(40)]


class Watches(unittest.TestCase):
    def check(self, watch, machine, run):
        self.assertEqual(told(watch), wanted(machine, run))
        self.assertIn(type(watch.left()), (int, type(None)))
        self.assertIs(type(watch.may_end()), bool)
        self.assertIs(type(watch.may_follow()), str)

    def test_all_short_runs(self):
        for machine in some_machines():
            for run in all_runs("abc", 3) + ["aabab", "ababa", "bbbbb"]:
                watch = Watch(machine)
                self.check(watch, machine, "")
                for at, letter in enumerate(run):
                    self.assertIs(watch.letter(letter), has_state(machine, run[:at + 1]))
                    self.check(watch, machine, run[:at + 1])
                for at in reversed(range(len(run))):
                    self.assertIsNone(watch.back())
                    self.check(watch, machine, run[:at])
                with self.assertRaises(NothingToUndo):
                    watch.back()
                self.check(watch, machine, "")

    def test_forth_and_back(self):
        for seed in range(60):
            pick = random.Random(seed)
            machine = pick.choice(some_machines())
            watch, run = Watch(machine), ""
            for _ in range(60):
                if pick.random() < 0.55:
                    run += pick.choice("abcd")
                    self.assertIs(watch.letter(run[-1]), has_state(machine, run))
                elif run:
                    run = run[:-1]
                    self.assertIsNone(watch.back())
                else:
                    with self.assertRaises(NothingToUndo) as caught:
                        watch.back()
                    self.assertIsInstance(caught.exception, FromrunsError)
                    self.assertEqual(vars(caught.exception), {})
                self.check(watch, machine, run)

    def test_back_before_at_and_behind_the_letter_with_which_it_left(self):
        watch = Watch(runs_machine(("abc",)))
        self.assertIs(watch.letter("a"), True)
        self.assertIs(watch.letter("c"), False)
        self.assertEqual(told(watch), (2, False, ""))
        # what would have been right behind a changes nothing any more
        self.assertIs(watch.letter("b"), False)
        self.assertIs(watch.letter("c"), False)
        self.assertEqual(told(watch), (2, False, ""))
        watch.back()
        watch.back()
        self.assertEqual(told(watch), (2, False, ""))
        watch.back()
        self.assertEqual(told(watch), (None, False, "b"))
        self.assertIs(watch.letter("b"), True)
        self.assertIs(watch.letter("c"), True)
        self.assertEqual(told(watch), (None, True, ""))
        self.assertIs(watch.letter("c"), False)
        self.assertEqual(told(watch), (4, False, ""))
        for _ in range(4):
            watch.back()
        self.assertEqual(told(watch), (None, False, "a"))
        with self.assertRaises(NothingToUndo):
            watch.back()
        self.assertEqual(told(watch), (None, False, "a"))
        self.assertIs(watch.letter("b"), False)
        self.assertEqual(watch.left(), 1)

    def test_the_machine_without_states(self):
        watch = Watch(EMPTY)
        self.assertEqual(told(watch), (0, False, ""))
        with self.assertRaises(NothingToUndo):
            watch.back()
        self.assertIs(watch.letter("a"), False)
        self.assertIs(watch.letter("a"), False)
        self.assertEqual(told(watch), (0, False, ""))
        watch.back()
        watch.back()
        self.assertEqual(told(watch), (0, False, ""))
        with self.assertRaises(NothingToUndo):
            watch.back()

    def test_the_empty_run_alone(self):
        watch = Watch(EMPTY_RUN)
        self.assertEqual(told(watch), (None, True, ""))
        self.assertIs(watch.letter("a"), False)
        self.assertEqual(told(watch), (1, False, ""))

    def test_two_watches_side_by_side(self):
        machine = ring(3)
        first, second = Watch(machine), Watch(machine)
        first.letter("a")
        self.assertEqual(told(second), (None, True, "a"))
        second.letter("b")
        self.assertEqual(told(first), (None, False, "a"))
        self.assertEqual(second.left(), 1)
        first.back()
        with self.assertRaises(NothingToUndo):
            first.back()
        second.back()
        self.assertEqual(told(second), told(first))

    def test_the_machine_is_unchanged(self):
        machine = ring(3)
        watch = Watch(machine)
        for letter in "aab":
            watch.letter(letter)
        self.assertEqual(machine, ring(3))

    def test_as_large_as_allowed(self):
        arrows = tuple((at, x, (at * 7 + 3 * n + 1) % 64) for at in range(64) for n, x in enumerate("abcdef"))
        machine = machine_of((64, arrows, (0,), (5,)))
        run = "abcdef" * 13 + "ab"
        with without_delay(self):
            watch = Watch(machine)
            for letter in run:
                self.assertIs(watch.letter(letter), True)
            self.assertEqual(watch.may_follow(), "abcdef")
            self.assertIs(watch.may_end(), goes_to(machine, 0, run) in machine[1])
            self.assertIs(watch.letter("g"), False)
            self.assertEqual(watch.left(), 81)
            for _ in range(81):
                watch.back()
            with self.assertRaises(NothingToUndo):
                watch.back()
        self.assertEqual(told(watch), wanted(machine, ""))


if __name__ == "__main__":
    unittest.main()
