"""Points [1] and [2], and the interface, for all functions at once."""

import copy
import importlib
import inspect
import random
import unittest

from fromruns.errors import FromrunsError
from fromruns.machines import machine_of, runs_machine
from tests.reference import complaint, line, random_web, ring

INTERFACE = {
    "words": {"in_order": "runs", "beginnings": "runs", "last_letters": "run, k", "backwards": "run"},
    "machines": {
        "machine_of": "web",
        "runs_machine": "runs",
        "state_behind": "machine, run",
        "takes": "machine, run",
        "tail": "machine, state",
        "letters_of": "machine",
    },
    "counting": {
        "count_runs": "machine, letters",
        "each_run": "machine, letters",
        "short_runs": "machine, letters, *, first=''",
        "nth_run": "machine, number",
        "number_of": "machine, run",
        "is_finite": "machine",
    },
    "combining": {
        "meet": "first, second",
        "either": "first, second",
        "without": "first, second",
        "followed": "first, second",
        "many": "machine",
        "reversed_machine": "machine",
        "outside": "first, second",
        "parting": "first, second",
    },
    "parts": {"behind": "machine, run", "ahead": "machine, run", "all_beginnings": "machine"},
    "corners": {"three_runs": "corner", "fourth_run": "corner", "judge_fault": "machine, k, corner"},
    "classes": {
        "shared_pairs": "machine, k",
        "is_bad": "machine, p, q",
        "is_closed": "machine, k",
        "fault": "machine, k",
        "least_closed": "machine",
        "never_paper": "machine",
        "judge_never": "machine, paper",
    },
    "learning": {
        "close": "machine, k",
        "learn": "runs, k",
        "join": "first, second, k",
        "staircase": "runs",
        "leads": "machine, k",
        "first_unexplained": "seen, runs, k",
        "same_protocol": "first, second, k",
    },
    "windows": {
        "windows": "runs, k",
        "fits_windows": "runs, k, run",
        "local_close": "machine, k",
        "local_learn": "runs, k",
        "is_local": "machine, k",
        "least_local": "machine",
        "local_gap": "machine, k",
        "judge_gap": "machine, k, gap",
        "splice": "runs, k, run",
        "judge_splices": "runs, k, lines, run",
    },
    "lots": {
        "lot": "machine, k",
        "teach": "machine, k",
        "is_lot": "machine, k, runs",
        "spare_runs": "runs, k",
        "lean_lot": "runs, k",
    },
    "barring": {"first_clash": "seen, barred, k", "least_fit": "machine, barred", "kind_of": "seen, barred, k, run"},
    "merging": {
        "merge_log": "runs, k",
        "lumps": "runs, k, log",
        "is_whole": "runs, k, log",
        "lump_machine": "runs, k, log",
    },
    "derivations": {"derive": "runs, k, run", "judge_derivation": "runs, k, lines, run"},
    "papers": {
        "barring_paper": "runs, k, run",
        "judge_barring": "runs, k, run, machine",
        "kind_paper": "seen, barred, k, run",
        "judge_sure": "seen, k, run, paper",
        "judge_never_run": "seen, barred, k, run, paper",
        "judge_open": "seen, barred, k, run, paper",
    },
    "fitting": {"fit_paper": "seen, barred", "judge_fit": "seen, barred, paper", "fits": "seen, barred"},
    "supports": {"support": "runs, k, run", "judge_support": "runs, k, run, paper", "blame": "seen, barred, k"},
    "coding": {
        "coded_run": "code, run",
        "decoded_run": "code, run",
        "decoded": "machine, code",
        "coded": "machine, code",
        "twice": "code",
    },
    "patterns": {"read_pattern": "text", "write_pattern": "machine"},
    "writing": {"write_runs": "runs", "write_machine": "machine"},
    "reading": {"read_runs": "text", "read_machine": "text"},
}
CLASSES = {
    "notebook": ("Notebook", "k", {
        "see": "run", "bar": "run", "forget": "run", "undo": "", "seen": "", "barred": "", "machine": "", "kind": "run",
    }),
    "watch": ("Watch", "machine", {"letter": "letter", "back": "", "left": "", "may_end": "", "may_follow": ""}),
    "journal": ("Journal", "k", {
        "begin": "case", "step": "case, letter", "undo": "", "finish": "case", "machine": "", "open_cases": "",
        "finished_runs": "", "strange_cases": "", "news": "machine",
    }),
    "bundles": ("Bundle", "machine", {
        "of_runs": "*runs", "learned": "runs, *, k=0", "closed": "*, k=0", "both": "other", "more": "other",
        "less": "other", "then": "other", "within": "other",
    }),
}
PROPERTIES = {"notebook": ("deeds",), "bundles": ("size",)}

TRUTHS = (
    "takes", "is_finite", "judge_fault", "is_bad", "is_closed", "judge_never", "same_protocol", "fits_windows",
    "is_local", "judge_gap", "judge_splices", "is_lot", "is_whole", "judge_derivation", "judge_barring", "judge_sure",
    "judge_never_run", "judge_open", "judge_fit", "judge_support",
)
NUMBERS = ("count_runs", "number_of", "state_behind", "least_closed", "least_local", "least_fit")
STRINGS = (
    "last_letters", "backwards", "tail", "letters_of", "nth_run", "outside", "parting", "fourth_run",
    "first_unexplained", "first_clash", "kind_of", "coded_run", "decoded_run", "twice", "write_pattern", "write_runs",
    "write_machine",
)
MACHINES = (
    "machine_of", "runs_machine", "meet", "either", "without", "followed", "many", "reversed_machine", "behind",
    "ahead", "all_beginnings", "close", "learn", "join", "local_close", "local_learn", "lump_machine", "barring_paper",
    "decoded", "coded", "read_pattern", "read_machine",
)
TUPLES = (
    "in_order", "beginnings", "short_runs", "three_runs", "shared_pairs", "fault", "never_paper", "staircase", "leads",
    "windows", "local_gap", "splice", "lot", "teach", "spare_runs", "lean_lot", "merge_log", "lumps", "derive",
    "kind_paper", "fit_paper", "fits", "support", "blame", "read_runs",
)
OR_NONE = (
    "state_behind", "nth_run", "outside", "parting", "fault", "least_closed", "never_paper", "first_unexplained",
    "least_local", "local_gap", "splice", "first_clash", "least_fit", "derive", "barring_paper", "fit_paper",
    "support", "blame", "coded_run", "decoded_run", "twice",
)
OF_RUNS = (
    "in_order", "beginnings", "runs_machine", "learn", "staircase", "windows", "local_learn", "spare_runs", "lean_lot",
    "merge_log", "write_runs",
)
NOT_SETS = ("write_runs",)
WITHOUT_K = ("in_order", "beginnings", "runs_machine", "staircase")

RUNS = ("b", "aab", "", "ab", "aab")
CODES = ((), (("a", "b"),), (("a", "x"), ("b", "xy"), ("c", "yx")), (("a", "a"), ("b", "a")), (("a", "bb"), ("b", "a")))
ALL = (((("a", 0), ("b", 0)),), (0,))
WEB = (4, ((2, "b", 3), (0, "a", 1), (0, "a", 1), (1, "a", 2), (1, "b", 3), (3, "c", 0)), (1, 0, 0), (3, 3))


def function(name):
    for module, names in INTERFACE.items():
        if name in names:
            return getattr(importlib.import_module("fromruns." + module), name)
    raise KeyError(name)


def some_machines():
    machines = [((), ()), (((),), (0,)), line(4), ring(3), ring(3, ends=(0, 1)), runs_machine(RUNS), machine_of(WEB)]
    return machines + [machine_of(random_web(seed, size=4, arrows=10, least=1)) for seed in range(4)]


def calls():
    """Names, arguments and keyword arguments of some calls of each function."""
    for runs in ((), RUNS, list(RUNS)):
        for name in ("in_order", "beginnings", "runs_machine", "write_runs"):
            yield name, (runs,), {}
    for run in ("", "ab", "abcabc"):
        yield "backwards", (run,), {}
        yield "last_letters", (run, 2), {}
    yield "machine_of", (WEB,), {}
    yield "machine_of", ((4, list(WEB[1]), list(WEB[2]), list(WEB[3])),), {}
    corner = ("", "a", "a", "b", "ab")
    for name in ("three_runs", "fourth_run"):
        yield name, (corner,), {}
    for machine in some_machines():
        yield from calls_with(machine, corner)
    for runs in ((), ("",), RUNS, list(RUNS), RUNS[::-1] * 2):
        yield from calls_with_runs(runs)
        for more in ((), ("bb", "aaab", ""), ["b", "aab"]):
            yield from calls_with_two(runs, more)
    for first in some_machines():
        for second in some_machines()[:7]:
            for name in ("meet", "either", "without", "followed", "outside", "parting"):
                yield name, (first, second), {}
            yield "join", (first, second, 1), {}
    yield from calls_with_texts()
    for code in CODES:
        yield "twice", (code,), {}
        for run in ("", "ab", "xyx", "xxxx", "c"):
            yield "coded_run", (code, run), {}
            yield "decoded_run", (code, run), {}
        for machine in some_machines():
            yield "coded", (machine, code), {}
            yield "decoded", (machine, code), {}


def calls_with_texts():
    for text in ("", "a", "(a|b)*", "a*", "!", ".", "a|", "(", "A", "(a))"):
        yield "read_pattern", (text,), {}
    for text in ("", ".\n", "b\n.\nb\n", "b", "\n", "a\n1\n"):
        yield "read_runs", (text,), {}
        yield "read_machine", (text,), {}
    for text in ("states 0\n", "states 1\nend\na 0\n", "states 1\nend\na 1\n", "states 1\nend", "end\nx\n"):
        yield "read_machine", (text,), {}
    for machine in some_machines():
        yield "write_machine", (machine,), {}
        if len(machine[0]) <= 4:
            yield "write_pattern", (machine,), {}


def calls_with(machine, corner):
    for name in ("letters_of", "is_finite", "many", "reversed_machine", "all_beginnings", "least_closed", "never_paper"):
        yield name, (machine,), {}
    for name in ("state_behind", "takes", "number_of", "behind", "ahead"):
        for run in ("", "a", "ab", "ba"):
            yield name, (machine, run), {}
    for name in ("count_runs", "each_run", "short_runs", "nth_run", "shared_pairs", "is_closed", "fault"):
        for number in (0, 1, 3):
            yield name, (machine, number), {}
    yield "short_runs", (machine, 4), {"first": "a"}
    for state in range(len(machine[0])):
        yield "tail", (machine, state), {}
        for other in range(state):
            yield "is_bad", (machine, state, other), {}
    yield "judge_fault", (machine, 1, corner), {}
    for paper in ((), ((0, 1),), ((0, 2), (1, 2))):
        yield "judge_never", (machine, paper), {}


    for name in ("close", "leads", "local_close", "is_local", "local_gap", "lot", "teach"):
        for k in (0, 2):
            yield name, (machine, k), {}
    yield "least_local", (machine,), {}
    yield "judge_gap", (machine, 1, corner), {}
    for runs in ((), RUNS, list(RUNS)):
        yield "is_lot", (machine, 1, runs), {}
        yield "least_fit", (machine, runs), {}
        yield "judge_barring", (runs, 1, "bb", machine), {}
        yield "judge_open", (runs, ("c",), 1, "bb", (machine, ALL)), {}


def calls_with_runs(runs):
    yield "staircase", (runs,), {}
    for k in (0, 1, 20):
        for name in ("learn", "windows", "local_learn", "spare_runs", "lean_lot", "merge_log"):
            yield name, (runs, k), {}
        for log in ((), function("merge_log")(runs, k), (("", "", "", "", ""),)):
            yield "lumps", (runs, k, log), {}
            yield "is_whole", (runs, k, log), {}
        yield "lump_machine", (runs, k, function("merge_log")(runs, k)), {}
        for run in ("", "ab", "aaaab", "ba"):
            for name in ("fits_windows", "splice", "derive", "barring_paper", "support"):
                yield name, (runs, k, run), {}
            for paper in ((), ("ab", "aab"), ("aab", "ab"), ("",)):
                yield "judge_support", (runs, k, run, paper), {}
            for lines in ((), (("ab", ()), ("aab", ()), ("aaaab", (0, 1, 1, 1, 2)))):
                yield "judge_derivation", (runs, k, lines, run), {}
                yield "judge_sure", (runs, k, run, lines), {}
                yield "judge_never_run", (runs, ("ab",), k, run, lines), {}
            yield "judge_splices", (runs, k, (("ab", ()), (run, (0, 0, 1, 1))), run), {}


def calls_with_two(runs, more):
    for name in ("fits", "fit_paper"):
        yield name, (runs, more), {}
    yield "judge_fit", (runs, more, (1, ALL, (("ab", ()),))), {}
    for k in (0, 1, 20):
        for name in ("first_unexplained", "same_protocol", "first_clash", "blame"):
            yield name, (runs, more, k), {}
        for run in ("", "ab", "aaaab", "ba"):
            for name in ("kind_of", "kind_paper"):
                yield name, (runs, more, k, run), {}


def told(name, arguments, keywords):
    try:
        result = function(name)(*arguments, **keywords)
    except FromrunsError as error:
        return Raised(type(error).__name__, vars(error))
    return list(result) if name == "each_run" else result


class Raised(tuple):
    """What a call raised, in the place of its result."""

    def __new__(cls, *parts):
        return super().__new__(cls, parts)


RAISING = {
    "teach": ("NotClosed",), "kind_of": ("Clash",), "kind_paper": ("Clash",), "lumps": ("BadMerge",),
    "read_pattern": ("BadPattern",), "read_runs": ("BadLine",), "read_machine": ("BadLine", "BadText"),
}


class Results(unittest.TestCase):
    def test_kinds(self):
        for name, arguments, keywords in calls():
            result = told(name, arguments, keywords)
            if isinstance(result, Raised):
                self.assertIn(result[0], RAISING[name])
            elif result is None:
                self.assertIn(name, OR_NONE)
            elif name in TRUTHS:
                self.assertIs(type(result), bool, name)
            elif name in NUMBERS:
                self.assertIs(type(result), int, name)
            elif name in STRINGS:
                self.assertIs(type(result), str, name)
            elif name in MACHINES:
                self.assertIsNone(complaint(result), name)
            elif name in TUPLES:
                self.assertIs(type(result), tuple, name)
                self.assertTrue(self.plain(result), name)
            else:
                self.assertEqual(name, "each_run")

    def plain(self, value):
        """Whether there is nothing but integers, strings, None and tuples of them."""
        if type(value) is tuple:
            return all(self.plain(part) for part in value)
        return value is None or type(value) in (int, str)

    def test_all_functions_are_called_here(self):
        names = {name for names in INTERFACE.values() for name in names}
        self.assertEqual({name for name, _, _ in calls()}, names)
        self.assertEqual({*TRUTHS, *NUMBERS, *STRINGS, *MACHINES, *TUPLES, "each_run"}, names)

    def test_what_is_passed_is_unchanged(self):
        for name, arguments, keywords in calls():
            before = copy.deepcopy(arguments)
            told(name, arguments, keywords)
            self.assertEqual(arguments, before, name)

    def test_the_same_call_gives_the_same_result_again(self):
        rows = list(calls())
        first = [told(*row) for row in rows]
        self.assertEqual([told(*row) for row in rows], first)
        order = list(range(len(rows)))
        random.Random(7).shuffle(order)
        for at in order:
            self.assertEqual(told(*rows[at]), first[at])

    def test_lists_of_runs_mean_what_tuples_mean(self):
        for name in OF_RUNS:
            more = () if name in WITHOUT_K + NOT_SETS else (1,)
            self.assertEqual(function(name)(list(RUNS), *more), function(name)(RUNS, *more))
            if name not in NOT_SETS:
                self.assertEqual(function(name)(RUNS[::-1] + RUNS, *more), function(name)(RUNS, *more))


def objects():
    """Objects of each class, two of each, and the names and arguments of some calls of their methods."""
    deeds = [("see", "ab"), ("bar", "b"), ("see", "aab"), ("see", "b"), ("bar", "aaab"), ("forget", "b"), ("undo",)]
    asked = [("seen",), ("barred",), ("machine",), ("kind", "aaab"), ("kind", ""), ("forget", "c"), ("undo",), ("undo",)]
    for k in (0, 1):
        yield class_of("notebook")(k), deeds + asked + deeds + [("undo",)] * 12 + asked
    letters = [("letter", "a"), ("letter", "b"), ("back",), ("letter", "c"), ("letter", "a")]
    asked = [("left",), ("may_end",), ("may_follow",)]
    for machine in some_machines():
        steps = [step for letter in letters for step in [letter] + asked]
        yield class_of("watch")(machine), asked + steps + [("back",)] * 5
    deeds = [("begin", 3), ("step", 3, "a"), ("begin", 3), ("step", 4, "a"), ("finish", 3), ("begin", -3), ("finish", 9)]
    asked = [("machine",), ("open_cases",), ("finished_runs",), ("strange_cases",), ("news", ALL), ("news", ((), ()))]
    for k in (0, 1):
        yield class_of("journal")(k), asked + deeds + asked + [("undo",)] * 6 + asked
    for machine in some_machines():
        told = [("of_runs", "ab", "b"), ("of_runs",), ("learned", RUNS), ("learned", list(RUNS)), ("closed",)]
        other = class_of("bundles")(ALL)
        names = ("both", "more", "less", "then", "within")
        yield class_of("bundles")(machine), told + [(name, other) for name in names]


def class_of(module):
    return getattr(importlib.import_module("fromruns." + module), CLASSES[module][0])


def answers(made, steps):
    """What the calls return or raise."""
    found = []
    for name, *arguments in steps:
        try:
            result = getattr(made, name)(*arguments)
        except FromrunsError as error:
            result = Raised(type(error).__name__, vars(error))
        found.append(result.held if hasattr(result, "held") else result)
    return found


RAISED_BY = {
    "see": ("KnownRun", "Clash"), "bar": ("KnownRun", "Clash"), "forget": ("UnknownRun",), "undo": ("NothingToUndo",),
    "back": ("NothingToUndo",), "begin": ("OpenCase",), "step": ("UnknownCase",), "finish": ("UnknownCase",),
}
RETURNING = {
    str: ("kind", "may_follow", "news"),
    bool: ("letter", "may_end", "finish", "within"),
    int: ("left",),
    tuple: ("seen", "barred", "machine", "open_cases", "finished_runs", "strange_cases", "of_runs", "learned", "closed",
            "both", "more", "less", "then"),
}
SILENT = ("see", "bar", "forget", "undo", "back", "begin", "step", "left", "news")


class Objects(unittest.TestCase):
    def test_the_same_calls_give_the_same_results_again(self):
        first = [answers(made, steps) for made, steps in objects()]
        self.assertEqual([answers(made, steps) for made, steps in objects()], first)

    def test_objects_side_by_side(self):
        wanted = [answers(made, steps) for made, steps in objects()]
        rows = [(made, steps, []) for made, steps in objects()]
        for at in range(max(len(steps) for _, steps, _ in rows)):
            for made, steps, found in rows:
                found.extend(answers(made, steps[at:at + 1]))
        self.assertEqual([found for _, _, found in rows], wanted)

    def test_kinds(self):
        called = set()
        for made, steps in objects():
            for (name, *_), result in zip(steps, answers(made, steps)):
                called.add((type(made).__name__, name))
                if isinstance(result, Raised):
                    self.assertIn(result[0], RAISED_BY[name])
                elif result is None:
                    self.assertIn(name, SILENT)
                else:
                    self.assertIn(name, RETURNING[type(result)])
        self.assertEqual(called, {(told, name) for told, _, methods in CLASSES.values() for name in methods})

    def test_what_is_passed_is_unchanged(self):
        for made, steps in objects():
            for name, *arguments in steps:
                before = [list(told) if type(told) is list else told for told in arguments]
                answers(made, [(name, *arguments)])
                self.assertEqual(arguments, before)


def parameters_of(made, method):
    """The parameters of the method, which stands in the class itself, without the object or the class."""
    told = vars(made)[method]
    signature = inspect.signature(getattr(told, "__func__", told))
    names = list(signature.parameters.values())
    return str(inspect.Signature(names if isinstance(told, staticmethod) else names[1:]))


class Interface(unittest.TestCase):
    def test_classes_and_their_methods(self):
        for module, (name, parameters, methods) in CLASSES.items():
            made = class_of(module)
            self.assertEqual((made.__module__, made.__name__), ("fromruns." + module, name))
            self.assertEqual(str(inspect.signature(made)), f"({parameters})")
            for method, told in methods.items():
                self.assertEqual(parameters_of(made, method), f"({told})", method)
            for told in PROPERTIES.get(module, ()):
                self.assertIsInstance(vars(made)[told], property)

    def test_names_arguments_and_files(self):
        for module, names in INTERFACE.items():
            for name, parameters in names.items():
                made = function(name)
                self.assertEqual(str(inspect.signature(made)), f"({parameters})", name)
                self.assertEqual(made.__module__, "fromruns." + module)

    def test_first_is_passed_by_keyword_alone(self):
        with self.assertRaises(TypeError):
            function("short_runs")(ring(3), 3, "a")

    def test_the_examples_of_the_document(self):
        learned = (((("a", 0), ("b", 1)), ()), (1,))
        self.assertEqual(machine_of((2, ((0, "a", 0), (0, "b", 1)), (0,), (1,))), learned)
        learn, takes = function("learn"), function("takes")
        self.assertEqual(learn(("ab", "aab"), 0), learned)
        self.assertTrue(takes(learn(("ab", "aab"), 1), "aaaab"))
        self.assertFalse(takes(learn(("ab", "aab"), 2), "aaaab"))
        self.assertEqual(function("least_fit")(runs_machine(("ab", "aab")), ("b", "aaab")), 2)
        self.assertEqual(function("kind_of")(("ab", "aab"), ("b",), 1, "aaab"), "sure")
        lines = (("ab", ()), ("aab", ()), ("aaab", (0, 1, 1, 1, 2)))
        self.assertIs(function("judge_derivation")(("ab", "aab"), 1, lines, "aaab"), True)
        self.assertIs(function("fits_windows")(("abc", "cab"), 1, "cabc"), True)
        self.assertEqual(function("twice")((("a", "x"), ("b", "xy"), ("c", "yx"))), "xyx")


if __name__ == "__main__":
    unittest.main()
