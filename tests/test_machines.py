import random
import unittest

from fromruns.machines import letters_of, machine_of, runs_machine, state_behind, tail, takes
from tests.reference import all_runs, complaint, has, line, random_web, ring, web_takes, without_delay

EMPTY = ((), ())
LAST_BUT_FIVE = (  # the runs of a and b whose sixth letter from the end is a: 64 states in the machine
    7,
    ((0, "a", 0), (0, "b", 0), (0, "a", 1), *((at, letter, at + 1) for at in range(1, 6) for letter in "ab")),
    (0,),
    (6,),
)


class WebCase(unittest.TestCase):
    def check(self, web, letters="ab", most=7):
        machine = machine_of(web)
        self.assertIsNone(complaint(machine), (web, machine))
        for run in all_runs(letters, most):
            self.assertEqual(has(machine, run), web_takes(web, run), (web, run))
        return machine


class MachineOf(WebCase):
    def test_the_webs_of_the_examples(self):
        self.assertEqual(
            machine_of((2, ((0, "a", 0), (0, "b", 1)), (0,), (1,))), (((("a", 0), ("b", 1)), ()), (1,))
        )

    def test_no_states_no_starts_no_ends(self):
        self.assertEqual(machine_of((0, (), (), ())), EMPTY)
        self.assertEqual(machine_of((1, ((0, "a", 0),), (), (0,))), EMPTY)
        self.assertEqual(machine_of((1, ((0, "a", 0),), (0,), ())), EMPTY)
        self.assertEqual(machine_of((3, ((0, "a", 1),), (0,), (2,))), EMPTY)

    def test_the_empty_run_alone(self):
        self.assertEqual(machine_of((1, (), (0,), (0,))), (((),), (0,)))
        self.assertEqual(machine_of((3, ((0, "a", 1),), (2, 0), (2,))), (((),), (0,)))

    def test_things_several_times_and_in_any_order(self):
        web = (3, ((0, "b", 2), (0, "a", 1), (1, "a", 0), (1, "b", 2)), (0, 1), (2, 1))
        told = self.check(web)
        pick = random.Random(1)
        for _ in range(10):
            size, arrows, starts, ends = [list(part) * 2 if type(part) is tuple else part for part in web]
            for part in (arrows, starts, ends):
                pick.shuffle(part)
            self.assertEqual(machine_of((size, tuple(arrows), tuple(starts), tuple(ends))), told)

    def test_states_not_reached_and_states_that_lead_to_no_end(self):
        web = (5, ((0, "a", 1), (0, "b", 2), (3, "a", 1), (2, "a", 2), (4, "b", 4)), (0,), (1, 4))
        self.assertEqual(self.check(web), (((("a", 1),), ()), (1,)))

    def test_states_with_the_same_runs_become_one(self):
        web = (6, ((0, "a", 1), (0, "b", 2), (1, "a", 3), (2, "a", 4), (3, "b", 3), (4, "b", 4)), (0,), (3, 4))
        told = (((("a", 1), ("b", 1)), (("a", 2),), (("b", 2),)), (2,))
        self.assertEqual(self.check(web), told)

    def test_states_are_numbered_in_the_order_of_their_first_runs(self):
        web = (4, ((3, "b", 2), (3, "a", 0), (0, "c", 1), (2, "d", 1), (2, "a", 3)), (3,), (1,))
        told = (((("a", 1), ("b", 2)), (("c", 3),), (("a", 0), ("d", 3)), ()), (3,))
        self.assertEqual(self.check(web, "abcd", 4), told)

    def test_a_state_reached_later_by_a_longer_run_has_a_greater_number(self):
        # by b comes a new state, by ab another one: the order is "", a, b, ab
        web = (4, ((0, "a", 1), (1, "b", 3), (0, "b", 2), (2, "c", 0), (3, "d", 3)), (0,), (1, 3))
        machine = self.check(web, "abcd", 5)
        self.assertEqual([state_behind(machine, run) for run in ("", "a", "b", "ab")], [0, 1, 2, 3])

    def test_many_small_webs(self):
        for seed in range(300):
            self.check(random_web(seed, size=seed % 5, arrows=seed % 9), most=6)
        for seed in range(60):
            self.check(random_web(seed, size=8, letters="abc", arrows=16), "abc", 5)

    def test_webs_of_one_language_give_one_machine_and_webs_of_two_give_two(self):
        # The webs have few arrows, so that what parts two of their languages is short.
        known = {}
        for seed in range(500):
            web = random_web(seed, size=3, arrows=seed % 8)
            machine = machine_of(web)
            language = tuple(run for run in all_runs("ab", 8) if web_takes(web, run))
            self.assertEqual(known.setdefault(language, machine), machine)
        self.assertEqual(len(set(known.values())), len(known))

    def test_64_states_of_8(self):
        with without_delay(self):
            machine = self.check(LAST_BUT_FIVE, most=8)
        self.assertEqual(len(machine[0]), 64)
        self.assertEqual(len(machine[1]), 32)
        for run in ("abbbbb", "babbbbb", "bbbbbbabbbbb"):
            self.assertTrue(takes(machine, run))
        self.assertFalse(takes(machine, "aaaaaaabbbbbb"))

    def test_eight_states_with_several_arrows_of_each_letter(self):
        for seed in range(40):
            with without_delay(self):
                self.check(random_web(seed, size=8, letters="abcdef", arrows=60), "abf", 4)

    def test_somewhat_more_states_than_the_bound(self):
        size, arrows, starts, _ = LAST_BUT_FIVE
        web = (8, (*arrows, (6, "a", 7), (6, "b", 7)), starts, (7,))
        with without_delay(self):
            self.assertEqual(len(self.check(web, most=8)[0]), 128)

    def test_a_web_of_its_own_arrows_gives_the_machine_back(self):
        for seed in range(50):
            rows, ends = machine_of(random_web(seed, size=5, arrows=12))
            arrows = tuple((state, letter, there) for state, row in enumerate(rows) for letter, there in row)
            starts = (0,) if rows else ()
            self.assertEqual(machine_of((len(rows), arrows[::-1], starts, ends)), (rows, ends))


class RunsMachine(unittest.TestCase):
    def check(self, runs, letters="ab", most=6):
        machine = runs_machine(runs)
        self.assertIsNone(complaint(machine))
        for run in all_runs(letters, most):
            self.assertEqual(has(machine, run), run in runs)
        return machine

    def test_no_runs_and_the_empty_run(self):
        self.assertEqual(runs_machine(()), EMPTY)
        self.assertEqual(runs_machine(("",)), (((),), (0,)))
        self.assertEqual(runs_machine(("", "")), (((),), (0,)))

    def test_the_runs_of_the_examples(self):
        told = (((("a", 1),), (("a", 2), ("b", 3)), (("b", 3),), ()), (3,))
        self.assertEqual(self.check(("ab", "aab")), told)

    def test_order_and_duplicates_mean_nothing(self):
        runs = ("ab", "", "bba", "b", "abab")
        told = self.check(runs)
        self.assertEqual(runs_machine(runs[::-1] + runs), told)

    def test_all_sets_of_short_runs(self):
        short = all_runs("ab", 2)
        known = set()
        for number in range(2 ** len(short)):
            runs = tuple(run for at, run in enumerate(short) if number >> at & 1)
            known.add(self.check(runs, most=3))
        self.assertEqual(len(known), 2 ** len(short))

    def test_eighty_short_runs(self):
        pick = random.Random(8)
        runs = tuple("".join(pick.choice("abcd") for _ in range(pick.choice((1, 2, 3, 4)))) for _ in range(80))
        machine = self.check(runs, "abcd", 5)
        self.assertEqual(sum(has(machine, run) for run in all_runs("abcd", 5)), len(set(runs)))

    def test_one_run_of_63_letters(self):
        run = "abcdefa" * 9
        machine = runs_machine((run,))
        self.assertEqual(machine, (tuple(((letter, at + 1),) for at, letter in enumerate(run)) + ((),), (63,)))

    def test_two_long_runs_that_part_in_their_first_letter(self):
        machine = runs_machine(("a" + "c" * 62, "b" + "c" * 62))
        self.assertEqual(len(machine[0]), 64)
        self.assertEqual(machine[0][0], (("a", 1), ("b", 1)))
        other = runs_machine(("a" + "c" * 30, "b" + "d" * 30))
        self.assertIsNone(complaint(other))
        self.assertEqual(len(other[0]), 62)
        self.assertEqual(other[0][:3], ((("a", 1), ("b", 2)), (("c", 3),), (("d", 4),)))

    def test_many_long_runs_go_without_delay(self):
        pick = random.Random(3)
        runs = tuple("".join(pick.choice("abcdef") for _ in range(53)) for _ in range(300))
        with without_delay(self):
            machine = runs_machine(runs)
        self.assertTrue(all(has(machine, run) for run in runs))


class Walking(unittest.TestCase):
    def test_state_behind(self):
        machine = runs_machine(("ab", "aab"))
        for run, state in (("", 0), ("a", 1), ("aa", 2), ("ab", 3), ("aab", 3)):
            self.assertEqual(state_behind(machine, run), state)
            self.assertIs(type(state_behind(machine, run)), int)
        for run in ("b", "aba", "aaa", "abb", "z", "az"):
            self.assertIsNone(state_behind(machine, run))

    def test_takes(self):
        machine = runs_machine(("ab", "aab"))
        for run in ("ab", "aab"):
            self.assertIs(takes(machine, run), True)
        for run in ("", "a", "aa", "b", "aba", "z", "zab"):
            self.assertIs(takes(machine, run), False)

    def test_the_machine_without_states(self):
        for run in ("", "a", "ab"):
            self.assertIsNone(state_behind(EMPTY, run))
            self.assertIs(takes(EMPTY, run), False)

    def test_runs_of_300_letters(self):
        machine = ring(64)
        self.assertEqual(state_behind(machine, "a" * 300), 300 - 4 * 64)
        self.assertIs(takes(machine, "a" * 256), True)
        self.assertIs(takes(machine, "a" * 300), False)
        self.assertIsNone(state_behind(machine, "a" * 299 + "b"))
        self.assertIsNone(state_behind(line(63), "a" * 300))

    def test_tail(self):
        machine = machine_of((3, ((0, "b", 1), (0, "a", 2), (2, "a", 2), (2, "c", 1)), (0,), (1,)))
        self.assertEqual([tail(machine, state) for state in range(3)], ["b", "c", ""])

    def test_tail_takes_the_first_of_runs_of_one_length(self):
        machine = runs_machine(("cab", "cba", "caa", "bzz", "zzzz"))
        self.assertEqual(tail(machine, 0), "bzz")
        self.assertEqual(tail(machine, state_behind(machine, "c")), "aa")
        self.assertEqual(tail(machine, state_behind(machine, "zz")), "zz")

    def test_tails_of_64_states(self):
        machine = line(63)
        self.assertEqual([tail(machine, state) for state in range(64)], ["a" * (63 - state) for state in range(64)])
        machine = ring(64)
        self.assertEqual([tail(machine, state) for state in (0, 1, 63)], ["", "a" * 63, "a"])

    def test_tails_of_many_machines(self):
        for seed in range(80):
            machine = machine_of(random_web(seed, size=4, arrows=8))
            for state in range(len(machine[0])):
                runs = (run for run in all_runs("ab", 12) if tail_run(machine, state, run))
                self.assertEqual(tail(machine, state), next(runs))

    def test_letters_of(self):
        self.assertEqual(letters_of(EMPTY), "")
        self.assertEqual(letters_of((((),), (0,))), "")
        self.assertEqual(letters_of(runs_machine(("fc", "cad", "f"))), "acdf")
        self.assertEqual(letters_of(ring(64, "z")), "z")


def tail_run(machine, state, run):
    for letter in run:
        state = dict(machine[0][state]).get(letter)
        if state is None:
            return False
    return state in machine[1]


if __name__ == "__main__":
    unittest.main()
