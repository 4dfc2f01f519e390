import unittest

from fromruns.learning import learn
from fromruns.machines import machine_of
from fromruns.reading import read_machine, read_runs
from fromruns.writing import write_machine, write_runs
from tests.closing import some_runs
from tests.reference import line, random_web, ring

EMPTY = ((), ())
EMPTY_RUN = (((),), (0,))


def text_of(machine):
    """Point [30], by its words."""
    rows, ends = machine
    text = "states " + str(len(rows)) + "\n"
    for state, row in enumerate(rows):
        text += "end\n" if state in ends else "state\n"
        for letter, there in row:
            text += letter + " " + str(there) + "\n"
    return text


class WriteRuns(unittest.TestCase):
    def test_edges(self):
        self.assertEqual(write_runs(()), "")
        self.assertEqual(write_runs(("",)), ".\n")
        self.assertEqual(write_runs(("a",)), "a\n")
        self.assertEqual(write_runs(["", "", "b"]), ".\n.\nb\n")

    def test_the_order_and_duplicates_stay(self):
        self.assertEqual(write_runs(("b", "", "ab", "b", "a")), "b\n.\nab\nb\na\n")

    def test_read_back(self):
        for seed in range(100):
            runs = some_runs(seed, many=8, letters="axyz")
            self.assertEqual(write_runs(runs), "".join((run if run else ".") + "\n" for run in runs))
            self.assertEqual(read_runs(write_runs(runs)), runs)

    def test_as_large_as_allowed(self):
        runs = ("a" * 64, "zyx" * 20) + ("",) * 70
        self.assertEqual(write_runs(runs), "a" * 64 + "\n" + "zyx" * 20 + "\n" + ".\n" * 70)


class WriteMachine(unittest.TestCase):
    def test_edges(self):
        self.assertEqual(write_machine(EMPTY), "states 0\n")
        self.assertEqual(write_machine(EMPTY_RUN), "states 1\nend\n")
        self.assertEqual(write_machine(learn(("ab", "aab"), 0)), "states 2\nstate\na 0\nb 1\nend\n")
        self.assertEqual(write_machine(ring(2)), "states 2\nend\na 1\nstate\na 0\n")

    def test_numbers_with_more_figures(self):
        told = write_machine(line(12))
        self.assertTrue(told.startswith("states 13\nstate\na 1\nstate\na 2\n"))
        self.assertTrue(told.endswith("state\na 11\nstate\na 12\nend\n"))

    def test_by_its_words_and_read_back(self):
        for seed in range(150):
            machine = machine_of(random_web(seed, size=seed % 7, letters="abz", arrows=10, least=1))
            self.assertEqual(write_machine(machine), text_of(machine))
            self.assertEqual(read_machine(write_machine(machine)), machine)

    def test_as_large_as_allowed(self):
        arrows = tuple((at, x, (at * 7 + 3 * n + 1) % 64) for at in range(64) for n, x in enumerate("abcdef"))
        machine = machine_of((64, arrows, (0,), (5,)))
        self.assertEqual(len(machine[0]), 64)
        self.assertEqual(write_machine(machine), text_of(machine))
        self.assertEqual(read_machine(write_machine(machine)), machine)


if __name__ == "__main__":
    unittest.main()
