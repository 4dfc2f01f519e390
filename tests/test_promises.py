"""Points [1] and [2], and the interface, for all functions at once."""

import copy
import importlib
import inspect
import random
import unittest

from fromruns.machines import machine_of, runs_machine
from tests.reference import complaint, line, random_web, ring

INTERFACE = {
    "words": {"in_order": "runs", "beginnings": "runs", "last_letters": "run, k", "backwards": "run"},
    "machines": {
        "machine_of": "web",
        "runs_machine": "runs",
        "state_behind": "machine, run",
        "takes": "machine, run",
        "tail": "machine, state",
        "letters_of": "machine",
    },
    "counting": {
        "count_runs": "machine, letters",
        "each_run": "machine, letters",
        "short_runs": "machine, letters, *, first=''",
        "nth_run": "machine, number",
        "number_of": "machine, run",
        "is_finite": "machine",
    },
    "combining": {
        "meet": "first, second",
        "either": "first, second",
        "without": "first, second",
        "followed": "first, second",
        "many": "machine",
        "reversed_machine": "machine",
        "outside": "first, second",
        "parting": "first, second",
    },
    "parts": {"behind": "machine, run", "ahead": "machine, run", "all_beginnings": "machine"},
    "corners": {"three_runs": "corner", "fourth_run": "corner", "judge_fault": "machine, k, corner"},
    "classes": {
        "shared_pairs": "machine, k",
        "is_bad": "machine, p, q",
        "is_closed": "machine, k",
        "fault": "machine, k",
        "least_closed": "machine",
        "never_paper": "machine",
        "judge_never": "machine, paper",
    },
}

TRUTHS = ("takes", "is_finite", "judge_fault", "is_bad", "is_closed", "judge_never")
NUMBERS = ("count_runs", "number_of", "state_behind", "least_closed")
STRINGS = (
    "last_letters", "backwards", "tail", "letters_of", "nth_run", "outside", "parting", "fourth_run",
)
MACHINES = (
    "machine_of", "runs_machine", "meet", "either", "without", "followed", "many", "reversed_machine", "behind",
    "ahead", "all_beginnings",
)
TUPLES = ("in_order", "beginnings", "short_runs", "three_runs", "shared_pairs", "fault", "never_paper")
OR_NONE = ("state_behind", "nth_run", "outside", "parting", "fault", "least_closed", "never_paper")

RUNS = ("b", "aab", "", "ab", "aab")
WEB = (4, ((2, "b", 3), (0, "a", 1), (0, "a", 1), (1, "a", 2), (1, "b", 3), (3, "c", 0)), (1, 0, 0), (3, 3))


def function(name):
    for module, names in INTERFACE.items():
        if name in names:
            return getattr(importlib.import_module("fromruns." + module), name)
    raise KeyError(name)


def some_machines():
    machines = [((), ()), (((),), (0,)), line(4), ring(3), ring(3, ends=(0, 1)), runs_machine(RUNS), machine_of(WEB)]
    return machines + [machine_of(random_web(seed, size=4, arrows=10, least=1)) for seed in range(4)]


def calls():
    """Names, arguments and keyword arguments of some calls of each function."""
    for runs in ((), RUNS, list(RUNS)):
        for name in ("in_order", "beginnings", "runs_machine"):
            yield name, (runs,), {}
    for run in ("", "ab", "abcabc"):
        yield "backwards", (run,), {}
        yield "last_letters", (run, 2), {}
    yield "machine_of", (WEB,), {}
    yield "machine_of", ((4, list(WEB[1]), list(WEB[2]), list(WEB[3])),), {}
    corner = ("", "a", "a", "b", "ab")
    for name in ("three_runs", "fourth_run"):
        yield name, (corner,), {}
    for machine in some_machines():
        yield from calls_with(machine, corner)
    for first in some_machines():
        for second in some_machines()[:7]:
            for name in ("meet", "either", "without", "followed", "outside", "parting"):
                yield name, (first, second), {}


def calls_with(machine, corner):
    for name in ("letters_of", "is_finite", "many", "reversed_machine", "all_beginnings", "least_closed", "never_paper"):
        yield name, (machine,), {}
    for name in ("state_behind", "takes", "number_of", "behind", "ahead"):
        for run in ("", "a", "ab", "ba"):
            yield name, (machine, run), {}
    for name in ("count_runs", "each_run", "short_runs", "nth_run", "shared_pairs", "is_closed", "fault"):
        for number in (0, 1, 3):
            yield name, (machine, number), {}
    yield "short_runs", (machine, 4), {"first": "a"}
    for state in range(len(machine[0])):
        yield "tail", (machine, state), {}
        for other in range(state):
            yield "is_bad", (machine, state, other), {}
    yield "judge_fault", (machine, 1, corner), {}
    for paper in ((), ((0, 1),), ((0, 2), (1, 2))):
        yield "judge_never", (machine, paper), {}


def told(name, arguments, keywords):
    result = function(name)(*arguments, **keywords)
    return list(result) if name == "each_run" else result


class Results(unittest.TestCase):
    def test_kinds(self):
        for name, arguments, keywords in calls():
            result = told(name, arguments, keywords)
            if result is None:
                self.assertIn(name, OR_NONE)
            elif name in TRUTHS:
                self.assertIs(type(result), bool, name)
            elif name in NUMBERS:
                self.assertIs(type(result), int, name)
            elif name in STRINGS:
                self.assertIs(type(result), str, name)
            elif name in MACHINES:
                self.assertIsNone(complaint(result), name)
            elif name in TUPLES:
                self.assertIs(type(result), tuple, name)
                self.assertTrue(self.plain(result), name)
            else:
                self.assertEqual(name, "each_run")

    def plain(self, value):
        """Whether there is nothing but integers, strings and tuples of them."""
        if type(value) is tuple:
            return all(self.plain(part) for part in value)
        return type(value) in (int, str)

    def test_all_functions_are_called_here(self):
        names = {name for names in INTERFACE.values() for name in names}
        self.assertEqual({name for name, _, _ in calls()}, names)
        self.assertEqual({*TRUTHS, *NUMBERS, *STRINGS, *MACHINES, *TUPLES, "each_run"}, names)

    def test_what_is_passed_is_unchanged(self):
        for name, arguments, keywords in calls():
            before = copy.deepcopy(arguments)
            told(name, arguments, keywords)
            self.assertEqual(arguments, before, name)

    def test_the_same_call_gives_the_same_result_again(self):
        rows = list(calls())
        first = [told(*row) for row in rows]
        self.assertEqual([told(*row) for row in rows], first)
        order = list(range(len(rows)))
        random.Random(7).shuffle(order)
        for at in order:
            self.assertEqual(told(*rows[at]), first[at])

    def test_lists_of_runs_mean_what_tuples_mean(self):
        for name in ("in_order", "beginnings", "runs_machine"):
            self.assertEqual(function(name)(list(RUNS)), function(name)(RUNS))


class Interface(unittest.TestCase):
    def test_names_arguments_and_files(self):
        for module, names in INTERFACE.items():
            for name, parameters in names.items():
                made = function(name)
                self.assertEqual(str(inspect.signature(made)), f"({parameters})", name)
                self.assertEqual(made.__module__, "fromruns." + module)

    def test_first_is_passed_by_keyword_alone(self):
        with self.assertRaises(TypeError):
            function("short_runs")(ring(3), 3, "a")

    def test_the_examples_of_the_document(self):
        learned = (((("a", 0), ("b", 1)), ()), (1,))
        self.assertEqual(machine_of((2, ((0, "a", 0), (0, "b", 1)), (0,), (1,))), learned)


if __name__ == "__main__":
    unittest.main()
