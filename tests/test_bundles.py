import inspect
import unittest

from fromruns.bundles import Bundle
from fromruns.combining import either, followed, meet, outside, without
from fromruns.learning import close, learn
from fromruns.machines import machine_of, runs_machine
from fromruns.parts import behind
from tests.closing import some_runs
from tests.reference import all_runs, has, language, line, random_web, ring, without_delay

EMPTY = ((), ())
EMPTY_RUN = (((),), (0,))
ALL = (((("a", 0), ("b", 0)),), (0,))
SHORT = all_runs("ab", 4)


def some_machines(many=30):
    machines = [EMPTY, EMPTY_RUN, ALL, line(3), ring(3), ring(3, ends=(0, 1)), runs_machine(("ab", "aab", ""))]
    return machines + [machine_of(random_web(seed, arrows=8, least=1)) for seed in range(many)]


def runs_of(machine):
    return set(language(machine, "ab", 4))


class Bundles(unittest.TestCase):
    def check(self, bundle, machine):
        self.assertIs(type(bundle), Bundle)
        self.assertEqual(bundle.held, machine)
        self.assertEqual(bundle.size, len(machine[0]))

    def test_held_and_size_are_there_from_the_beginning(self):
        for machine in some_machines():
            bundle = Bundle(machine)
            self.assertEqual(vars(bundle)["held"], machine)
            self.assertIs(type(bundle.size), int)
            self.check(bundle, machine)

    def test_of_runs(self):
        self.check(Bundle.of_runs(), EMPTY)
        self.check(Bundle.of_runs(""), EMPTY_RUN)
        self.check(Bundle.of_runs("ab", "b", "ab"), runs_machine(("ab", "b")))
        for seed in range(40):
            runs = some_runs(seed)
            self.check(Bundle.of_runs(*runs), runs_machine(runs))
            self.check(Bundle(ALL).of_runs(*runs), runs_machine(runs))

    def test_learned(self):
        self.check(Bundle.learned(()), EMPTY)
        self.check(Bundle.learned(("",)), EMPTY_RUN)
        self.check(Bundle.learned(("ab", "aab")), learn(("ab", "aab"), 0))
        for seed in range(40):
            runs = some_runs(seed)
            self.check(Bundle.learned(runs), learn(runs, 0))
            self.check(Bundle.learned(list(runs)), learn(runs, 0))
            for k in (0, 1, 2, 20):
                self.check(Bundle.learned(runs, k=k), learn(runs, k))
                self.check(Bundle(ALL).learned(runs[::-1] * 2, k=k), learn(runs, k))
        with self.assertRaises(TypeError):
            Bundle.learned((), 1)

    def test_closed(self):
        for machine in some_machines():
            self.check(Bundle(machine).closed(), close(machine, 0))
            for k in (0, 1, 2):
                self.check(Bundle(machine).closed(k=k), close(machine, k))
        self.check(Bundle(ring(3)).closed(k=20), ring(3))
        self.check(Bundle(EMPTY).closed(k=20), EMPTY)
        with self.assertRaises(TypeError):
            Bundle(ALL).closed(1)

    def test_two_bundles(self):
        machines = some_machines()
        for one in machines:
            for other in machines[::3]:
                first, second = Bundle(one), Bundle(other)
                self.check(first.both(second), meet(one, other))
                self.check(first.more(second), either(one, other))
                self.check(first.less(second), without(one, other))
                self.check(first.then(second), followed(one, other))
                self.assertIs(first.within(second), outside(one, other) is None)

    def test_two_bundles_by_their_runs(self):
        machines = some_machines(8)
        for one in machines:
            for other in machines:
                first, second = Bundle(one), Bundle(other)
                left, right = runs_of(one), runs_of(other)
                self.assertEqual(runs_of(first.both(second).held), left & right)
                self.assertEqual(runs_of(first.more(second).held), left | right)
                self.assertEqual(runs_of(first.less(second).held), left - right)
                both = {run + more for run in left for more in right if len(run + more) <= 4}
                self.assertEqual(runs_of(first.then(second).held), both)
                if first.within(second):
                    self.assertLessEqual(left, right)

    def test_within(self):
        a, b = Bundle.of_runs("a"), Bundle.of_runs("a", "b")
        self.assertIs(a.within(b), True)
        self.assertIs(b.within(a), False)
        self.assertIs(a.within(a), True)
        self.assertIs(Bundle.of_runs().within(a), True)
        self.assertIs(a.within(Bundle.of_runs()), False)
        self.assertIs(Bundle.of_runs().within(Bundle.of_runs()), True)

    def test_in_and_bool(self):
        for machine in some_machines():
            bundle = Bundle(machine)
            self.assertIs(bool(bundle), machine != EMPTY)
            for run in SHORT + ["c", "ac", "aabaab"]:
                self.assertIs(run in bundle, has(machine, run))
                self.assertIs(run not in bundle, not has(machine, run))
        self.assertIs(bool(Bundle.of_runs("")), True)
        self.assertIs(bool(Bundle.of_runs()), False)
        self.assertIs("" in Bundle.of_runs(), False)

    def test_calling(self):
        for machine in some_machines():
            for run in SHORT[:15] + ["c", "ac"]:
                told = Bundle(machine)(run)
                self.check(told, behind(machine, run))
                for more in SHORT[:15]:
                    self.assertIs(more in told, has(machine, run + more))
        self.check(Bundle(ALL)("ab")("ba"), ALL)
        self.check(Bundle(EMPTY)(""), EMPTY)

    def test_iterating(self):
        for machine in some_machines():
            bundle = Bundle(machine)
            wanted = [(state, x, there) for state, row in enumerate(machine[0]) for x, there in row]
            self.assertEqual(list(bundle), wanted)
            self.assertEqual(wanted, sorted(wanted))
            self.assertTrue(all(type(arrow) is tuple for arrow in bundle))
            # once more, and two at a time
            self.assertEqual(list(bundle), wanted)
            self.assertEqual([(one, other) for one in bundle for other in bundle],
                             [(one, other) for one in wanted for other in wanted])
            self.assertEqual(machine_of((bundle.size, tuple(bundle), (0,) * bool(bundle), machine[1])), machine)
        self.assertEqual(list(Bundle.of_runs()), [])
        self.assertEqual(list(Bundle.of_runs("")), [])

    def test_no_method_changes_a_bundle(self):
        for machine in some_machines(10):
            bundle, other = Bundle(machine), Bundle(ring(3))
            before = dict(vars(bundle))
            for told in (bundle.closed(), bundle.both(other), bundle.more(other), bundle.less(other),
                         bundle.then(other), bundle("a"), bundle.within(other), "a" in bundle, bool(bundle),
                         list(bundle), bundle.of_runs("a"), bundle.learned(("a",), k=2), bundle.size):
                self.assertIsNot(told, bundle)
                self.assertEqual(vars(bundle), before)
                self.check(bundle, machine)
                self.check(other, ring(3))

    def test_with_itself(self):
        for machine in some_machines():
            bundle = Bundle(machine)
            self.check(bundle.both(bundle), machine)
            self.check(bundle.more(bundle), machine)
            self.check(bundle.less(bundle), EMPTY)
            self.assertIs(bundle.within(bundle), True)

    def test_each_is_defined_in_the_class_itself(self):
        for name in ("of_runs", "learned", "size", "closed", "both", "more", "less", "then", "within", "__contains__",
                     "__bool__", "__call__", "__iter__", "__init__"):
            self.assertIn(name, vars(Bundle))
        self.assertIsInstance(vars(Bundle)["of_runs"], staticmethod)
        self.assertIsInstance(vars(Bundle)["learned"], classmethod)
        self.assertIsInstance(vars(Bundle)["size"], property)
        self.assertEqual(str(inspect.signature(Bundle)), "(machine)")
        self.assertEqual(str(inspect.signature(Bundle.of_runs)), "(*runs)")
        self.assertEqual(str(inspect.signature(Bundle.learned)), "(runs, *, k=0)")
        self.assertEqual(str(inspect.signature(Bundle(ALL).closed)), "(*, k=0)")

    def test_as_large_as_allowed(self):
        arrows = tuple((at, x, (at * 7 + 3 * n + 1) % 64) for at in range(64) for n, x in enumerate("abcdef"))
        large = machine_of((64, arrows, (0,), (5,)))
        self.assertEqual(len(large[0]), 64)
        with without_delay(self):
            bundle = Bundle(large)
            self.assertEqual(len(list(bundle)), 64 * 6)
            self.assertIs("abcdef" * 50 in bundle, has(large, "abcdef" * 50))
            self.check(bundle.both(bundle), large)
            self.check(bundle.more(Bundle.of_runs()), large)
            self.check(bundle("abcdef" * 10), behind(large, "abcdef" * 10))
            self.assertIs(bundle.within(Bundle(ALL)), False)
            self.check(bundle.closed(), close(large, 0))
            self.check(Bundle(line(56)).then(Bundle(ring(8))), followed(line(56), ring(8)))
            self.check(Bundle.learned(("a" * 64, "ab" * 32, ""), k=20), learn(("a" * 64, "ab" * 32, ""), 20))


if __name__ == "__main__":
    unittest.main()
