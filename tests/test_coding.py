import random
import unittest

from fromruns.classes import is_closed
from fromruns.coding import coded, coded_run, decoded, decoded_run, twice
from fromruns.learning import learn
from fromruns.machines import machine_of, runs_machine
from tests.closing import is_closed_slowly, some_runs
from tests.reference import all_runs, complaint, has, language, line, ordered, random_web, ring, without_delay

EMPTY = ((), ())
EMPTY_RUN = (((),), (0,))
ALL = (((("a", 0), ("b", 0)),), (0,))
EXAMPLE = (("a", "x"), ("b", "xy"), ("c", "yx"))


def slow_coded_run(code, run):
    words = dict(code)
    return "".join(words[letter] for letter in run) if set(run) <= set(words) else None


def slow_decoded_run(code, run):
    """The first of all runs with at most as many letters, since each letter is coded as one at least."""
    letters = "".join(letter for letter, _ in code)
    return next((told for told in all_runs(letters, len(run)) if slow_coded_run(code, told) == run), None)


def ways(code, run):
    """The number of the runs whose coded run is the run."""
    counts = {len(run): 1}
    for at in range(len(run) - 1, -1, -1):
        counts[at] = sum(counts[at + len(word)] for _, word in code if run[at:at + len(word)] == word)
    return counts[0]


def slow_twice(code, most):
    """The first run with at most that many letters that is coded of two runs."""
    letters = "".join(sorted({letter for _, word in code for letter in word}))
    return next((run for run in all_runs(letters, most) if ways(code, run) > 1), None)


def random_code(seed, letters="abc", into="xy", most=3):
    pick = random.Random(seed)
    words = ["".join(pick.choice(into) for _ in range(pick.randint(1, most))) for _ in letters]
    return tuple((letter, word) for letter, word in zip(letters, words) if pick.random() < 0.9)


def some_codes():
    codes = [(), (("a", "a"),), (("a", "b"), ("b", "a")), (("b", "a"),), (("a", "aa"), ("b", "a")), EXAMPLE]
    codes += [(("a", "x"), ("b", "x")), (("a", "xxx"), ("c", "xx")), (("a", "b"), ("b", "bb"), ("c", "bbb"))]
    return codes + [random_code(seed, into="xy" if seed % 3 else "ab") for seed in range(60)]


class CodedRun(unittest.TestCase):
    def test_by_its_words(self):
        for code in some_codes():
            for run in all_runs("abc", 4):
                self.assertEqual(coded_run(code, run), slow_coded_run(code, run))

    def test_edges(self):
        self.assertEqual(coded_run((), ""), "")
        self.assertIsNone(coded_run((), "a"))
        self.assertEqual(coded_run(EXAMPLE, "abca"), "xxyyxx")
        self.assertIsNone(coded_run(EXAMPLE, "abd"))
        self.assertIsNone(coded_run(EXAMPLE, "dab"))
        # the letters of the code's runs have no pairs of their own
        self.assertIsNone(coded_run(EXAMPLE, "x"))

    def test_as_large_as_allowed(self):
        code = tuple((letter, letter * 8) for letter in "abcdef")
        run = "abcdef" * 3 + "ab"
        self.assertEqual(coded_run(code, run), "".join(letter * 8 for letter in run))


class DecodedRun(unittest.TestCase):
    def test_by_a_slow_search(self):
        found = 0
        for code in some_codes():
            letters = sorted({letter for _, word in code for letter in word} | {"x"})[:2]
            for run in all_runs("".join(letters), 5):
                wanted = slow_decoded_run(code, run)
                self.assertEqual(decoded_run(code, run), wanted)
                found += wanted is not None
        self.assertGreater(found, 300)

    def test_what_is_coded_is_decoded(self):
        for code in some_codes():
            for run in all_runs("abc", 4):
                told = coded_run(code, run)
                if told is not None:
                    back = decoded_run(code, told)
                    self.assertEqual(coded_run(code, back), told)
                    self.assertTrue((len(back), back) <= (len(run), run))

    def test_edges(self):
        for code in some_codes():
            self.assertEqual(decoded_run(code, ""), "")
        self.assertIsNone(decoded_run((), "x"))
        self.assertEqual(decoded_run(EXAMPLE, "xyx"), "ac")
        self.assertIsNone(decoded_run(EXAMPLE, "y"))
        # the shortest run first, then the least one
        self.assertEqual(decoded_run((("a", "x"), ("b", "xx")), "xxx"), "ab")
        self.assertEqual(decoded_run((("a", "x"), ("b", "xxx")), "xxx"), "b")
        self.assertEqual(decoded_run((("a", "x"), ("b", "x")), "xx"), "aa")
        # what looks best at the beginning leads nowhere
        self.assertEqual(decoded_run((("a", "xx"), ("b", "x"), ("c", "y"), ("d", "xy")), "xxy"), "ac")
        self.assertEqual(decoded_run((("a", "xx"), ("b", "x"), ("d", "xy")), "xxy"), "bd")

    def test_as_large_as_allowed(self):
        code = tuple((letter, "x" * many) for letter, many in zip("abcdef", (1, 2, 3, 5, 7, 8)))
        with without_delay(self):
            self.assertEqual(decoded_run(code, "x" * 160), "f" * 20)
            self.assertEqual(decoded_run(code, "x" * 159), "e" + "f" * 19)
            self.assertIsNone(decoded_run(code, "x" * 159 + "y"))
            self.assertIsNone(decoded_run(code[1:2], "x" * 159))
            self.assertEqual(decoded_run(code[:2], "x" * 159), "a" + "b" * 79)


class Machines(unittest.TestCase):
    def machines(self, many=40):
        machines = [EMPTY, EMPTY_RUN, ALL, line(3), ring(3), ring(3, ends=(0, 1)), runs_machine(("ab", "cab", "c"))]
        return machines + [
            machine_of(random_web(seed, size=4, letters="abc", arrows=9, least=1)) for seed in range(many)
        ]

    def test_decoded(self):
        for code in some_codes():
            into = "".join(sorted({letter for _, word in code for letter in word}))[:2] or "ab"
            machines = [machine_of(random_web(seed, size=5, letters=into, arrows=9, least=1)) for seed in range(6)]
            for machine in [EMPTY, EMPTY_RUN, runs_machine(("xxy", "x", "xyx", "")), *machines]:
                told = decoded(machine, code)
                self.assertIsNone(complaint(told))
                for run in all_runs("abc", 5):
                    word = slow_coded_run(code, run)
                    self.assertEqual(has(told, run), word is not None and has(machine, word))

    def test_coded(self):
        for code in some_codes():
            into = "".join(sorted({letter for _, word in code for letter in word})) or "x"
            for machine in self.machines(6):
                told = coded(machine, code)
                self.assertIsNone(complaint(told))
                words = {slow_coded_run(code, run) for run in language(machine, "abc", 5)} - {None}
                wanted = ordered(word for word in words if len(word) <= 5)
                self.assertEqual(language(told, into, 5), wanted)

    def test_edges(self):
        for code in some_codes():
            self.assertEqual(coded(EMPTY, code), EMPTY)
            self.assertEqual(decoded(EMPTY, code), EMPTY)
            self.assertEqual(coded(EMPTY_RUN, code), EMPTY_RUN)
            self.assertEqual(decoded(EMPTY_RUN, code), EMPTY_RUN)
        # without pairs only the empty run is coded
        self.assertEqual(coded(ALL, ()), EMPTY_RUN)
        self.assertEqual(decoded(ALL, ()), EMPTY_RUN)
        self.assertEqual(coded(line(1), ()), EMPTY)
        self.assertEqual(decoded(line(1), ()), EMPTY)
        self.assertEqual(coded(runs_machine(("ab", "ba", "a")), (("a", "xy"),)), runs_machine(("xy",)))
        self.assertEqual(decoded(runs_machine(("xyxy", "xyx", "x")), (("a", "xy"),)), runs_machine(("aa",)))
        # equal runs, and runs that begin others
        self.assertEqual(coded(ALL, (("a", "x"), ("b", "x"))), (((("x", 0),),), (0,)))
        self.assertEqual(coded(ring(1), (("a", "xx"),)), ring(2, "x"))
        self.assertEqual(decoded(ring(3, "x"), (("a", "x"), ("b", "xx"))),
                         machine_of((3, tuple((s, x, (s + n) % 3) for s in range(3) for n, x in ((1, "a"), (2, "b"))),
                                     (0,), (0,))))
        # a letter that the machine does not have changes nothing
        self.assertEqual(coded(line(2), (("a", "x"), ("b", "y"))), runs_machine(("xx",)))

    def test_decoded_and_coded_one_after_the_other(self):
        for seed, machine in enumerate(self.machines()):
            code = random_code(seed, most=2)
            again = decoded(coded(machine, code), code)
            for run in language(machine, "abc", 4):
                self.assertEqual(has(again, run), slow_coded_run(code, run) is not None)

    def test_of_closed_machines(self):
        for seed in range(60):
            k = seed % 4
            machine = learn(some_runs(seed, many=5, most=5, letters="xy"), k)
            self.assertTrue(is_closed_slowly(machine, k))
            if len(machine[0]) > 8:
                continue
            for m in (1, 2, 3):
                code = tuple((letter, word * m) for letter, word in random_code(seed + m, most=2))
                least = min((len(word) for _, word in code), default=m)
                for j in range(5):
                    if j * least >= k:
                        self.assertTrue(is_closed_slowly(decoded(machine, code), j))
            for code in ((("x", "y"), ("y", "x")), (("x", "a"), ("y", "b")), (("x", "y"),), ()):
                self.assertTrue(is_closed(coded(machine, code), k))

    def test_as_large_as_allowed(self):
        arrows = tuple((at, x, (at * 3 + n + 1) % 8) for at in range(8) for n, x in enumerate("abcdef"))
        machine = machine_of((8, arrows, (0,), (5,)))
        self.assertEqual(len(machine[0]), 8)
        code = tuple((letter, "x" * (n + 3)) for n, letter in enumerate("abcdef"))
        long = tuple((letter, "u" * 7 + letter) for letter in "abcdef")
        with without_delay(self):
            told = coded(machine, code)
            self.assertIsNone(complaint(told))
            for run in all_runs("abcdef", 3):
                if has(machine, run):
                    self.assertTrue(has(told, slow_coded_run(code, run)))
            self.assertEqual(len(coded(machine, long)[0]), 64)
            self.assertEqual(decoded(coded(machine, long), long), machine)
            self.assertIsNone(complaint(decoded(ring(8, "x"), code)))

    def test_many_sets_of_states(self):
        # Taken letter by letter, tens of thousands of sets of places are met, but few of them take different runs.
        table = (
            "a0b1c2f3", "a3b0d4e0f1", "a4c5d1e1f6", "a1b7d3e3f0", "a6b3c1d6e6f2", "b5c5f5", "a7b2c7d0e2", "a2c7d6f5",
        )
        rows = tuple(tuple((row[at], int(row[at + 1])) for at in range(0, len(row), 2)) for row in table)
        machine = (rows, (0, 1, 2, 5, 6))
        self.assertIsNone(complaint(machine))
        code = (("a", "yxyxy"), ("b", "yyxyyyy"), ("c", "y"), ("d", "yyy"), ("e", "yxyy"), ("f", "x"))
        with without_delay(self, 5):
            told = coded(machine, code)
        self.assertEqual(len(told[0]), 35)
        words = {slow_coded_run(code, run) for run in language(machine, "abcdef", 6)}
        self.assertTrue(all(has(told, word) for word in words))
        shorter = [run for run in all_runs("xy", 6) if has(told, run)]
        self.assertEqual(shorter, ordered(word for word in words if len(word) <= 6))


class Twice(unittest.TestCase):
    def test_by_a_slow_search(self):
        found = 0
        codes = some_codes() + [random_code(seed, letters="abcd", into="xy", most=4) for seed in range(80)]
        for code in codes:
            wanted = slow_twice(code, 9)
            told = twice(code)
            if wanted is not None:
                found += 1
                self.assertEqual(told, wanted)
            elif told is not None:
                self.assertGreater(len(told), 9)
                self.assertGreater(ways(code, told), 1)
        self.assertGreater(found, 50)

    def test_three_letters(self):
        for seed in range(30):
            code = random_code(seed, letters="abcde", into="xyz", most=3)
            wanted = slow_twice(code, 6)
            told = twice(code)
            self.assertEqual(told if told is not None and len(told) <= 6 else None, wanted)

    def test_long_runs_of_codes(self):
        found = 0
        for seed in range(40):
            pick = random.Random(seed)
            code = tuple((x, "".join(pick.choice("xy") for _ in range(pick.randint(3, 5)))) for x in "abcdef")
            told = twice(code)
            wanted = slow_twice(code, 10)
            found += wanted is not None and len(wanted) > 5
            self.assertEqual(told if told is not None and len(told) <= 10 else None, wanted)
        self.assertGreater(found, 5)

    def test_edges(self):
        self.assertEqual(twice(EXAMPLE), "xyx")
        self.assertIsNone(twice(()))
        self.assertIsNone(twice((("a", "xx"),)))
        self.assertIsNone(twice((("a", "x"), ("b", "y"))))
        self.assertEqual(twice((("a", "xy"), ("b", "xy"))), "xy")
        self.assertEqual(twice((("a", "x"), ("b", "xx"))), "xx")
        self.assertEqual(twice((("a", "xx"), ("b", "xxx"))), "x" * 5)
        # one run begins another one, but nothing is coded twice
        self.assertIsNone(twice((("a", "x"), ("b", "xy"), ("c", "xyy"))))
        # of two with the same number of letters the one that is less
        self.assertEqual(twice((("a", "yy"), ("b", "yy"), ("c", "xz"), ("d", "xz"))), "xz")

    def test_long_ones(self):
        for p, q in ((7, 8), (5, 8), (5, 7)):
            self.assertEqual(twice((("a", "x" * p), ("b", "x" * q))), "x" * (p + q))
        # each letter is told only by what comes behind it
        code = (("a", "x"), ("b", "xyyyyyyy"), ("c", "yyyyyyy"))
        self.assertEqual(twice(code), "xyyyyyyy")
        code = (("a", "xxxxxxxy"), ("b", "yx"), ("c", "xyxxxxxx"), ("d", "xxxxxx"), ("e", "xy"), ("f", "yxxxxxxx"))
        told = twice(code)
        self.assertGreater(ways(code, told), 1)

    def test_as_large_as_allowed(self):
        with without_delay(self):
            for seed in range(300):
                pick = random.Random(seed)
                many = pick.randint(5, 8)
                code = tuple((x, "".join(pick.choice("xy") for _ in range(pick.randint(many, 8)))) for x in "abcdef")
                told = twice(code)
                if told is not None:
                    self.assertGreater(ways(code, told), 1)


if __name__ == "__main__":
    unittest.main()
