import random
import unittest
from itertools import product

from fromruns.errors import BadPattern, FromrunsError
from fromruns.machines import machine_of, runs_machine
from fromruns.patterns import read_pattern, write_pattern
from tests.patterning import begins_one, is_pattern, random_pattern, runs_in, sizes_in, slow_bad_place, tree_of
from tests.reference import complaint, language, line, ordered, random_web, ring, without_delay

EMPTY = ((), ())
EMPTY_RUN = (((),), (0,))
ALL = (((("a", 0), ("b", 0)),), (0,))
SIGNS = "".join(chr(number) for number in range(32, 127)) + "\t\n"


class Patterns(unittest.TestCase):
    def bad(self, text):
        with self.assertRaises(BadPattern) as caught:
            read_pattern(text)
        self.assertIsInstance(caught.exception, FromrunsError)
        self.assertIs(type(caught.exception.position), int)
        self.assertEqual(vars(caught.exception), {"position": caught.exception.position})
        return caught.exception.position

    def check(self, text, letters="ab", most=5):
        machine = read_pattern(text)
        self.assertIsNone(complaint(machine))
        self.assertEqual(language(machine, letters, most), ordered(runs_in(tree_of(text), most)), text)


class ReadPattern(Patterns):
    def test_atoms(self):
        self.assertEqual(read_pattern("a"), line(1))
        self.assertEqual(read_pattern("z"), line(1, "z"))
        self.assertEqual(read_pattern("."), EMPTY_RUN)
        self.assertEqual(read_pattern("!"), EMPTY)
        self.assertEqual(read_pattern("((a))"), line(1))

    def test_rows_choices_and_stars(self):
        self.assertEqual(read_pattern("ab|b|ab"), runs_machine(("ab", "b")))
        self.assertEqual(read_pattern("a(b|.)a"), runs_machine(("aba", "aa")))
        self.assertEqual(read_pattern("(a|b)*"), ALL)
        self.assertEqual(read_pattern("a*b"), (((("a", 0), ("b", 1)), ()), (1,)))
        self.assertEqual(read_pattern("(aaa)*"), ring(3))
        # a star takes the atom before it alone, and a row comes before a choice
        self.assertEqual(read_pattern("ab*"), read_pattern("a(b*)"))
        self.assertEqual(read_pattern("a|b*"), read_pattern("a|(b*)"))
        self.assertEqual(read_pattern("a|ba"), runs_machine(("a", "ba")))

    def test_the_empty_run_and_no_run(self):
        for text in (".*", "!*", "..", ".|.", "!|.", "!**", "(!)*", "(.|!)*.", "a!|."):
            self.assertEqual(read_pattern(text), EMPTY_RUN, text)
        for text in ("!!", "a!", "!a", "!|!", "(!)", "a*!b*", "!(a|b)*"):
            self.assertEqual(read_pattern(text), EMPTY, text)
        self.assertEqual(read_pattern("a|!"), line(1))
        self.assertEqual(read_pattern(".a."), line(1))

    def test_all_short_texts(self):
        patterns = 0
        for many in range(7):
            for signs in product("a.!()|*-" if many < 4 else "a!()|*" if many < 5 else "a()|*", repeat=many):
                text = "".join(signs)
                place = slow_bad_place(text)
                if place is not None:
                    self.assertEqual(self.bad(text), place, text)
                    continue
                patterns += 1
                self.check(text, letters="a", most=4)
        self.assertGreater(patterns, 300)

    def test_any_patterns(self):
        for seed in range(1500):
            text = random_pattern(seed, most=seed % 16 + 1, letters="ab" if seed % 3 else "abz")
            self.assertTrue(is_pattern(text), text)
            self.check(text, letters="ab" if seed % 3 else "abz", most=5 if seed % 3 else 4)

    def test_any_texts(self):
        places = set()
        for seed in range(4000):
            pick = random.Random(seed)
            text = random_pattern(seed, most=seed % 14 + 1)
            at = pick.randint(0, len(text))
            sign = pick.choice(("", "(", ")", "*", "|", "|)", pick.choice(SIGNS), "A", " "))
            text = text[:at] + sign + text[at + pick.randint(0, 1):]
            place = slow_bad_place(text)
            if place is not None:
                self.assertEqual(self.bad(text), place, text)
                places.add((place == 0, place == len(text)))
        self.assertEqual(len(places), 4)

    def test_bad_places(self):
        self.assertEqual(self.bad(""), 0)
        for text in ("*", "|", ")", "|a", ")a", "A", " a", "\ta", "\n", "-", "1", "{", "`", "[a]", "+", "?"):
            self.assertEqual(self.bad(text), 0, text)
        # something is missing at the end
        for text in ("(", "((", "a|", "(a", "(a|", "(a)(", "a*|", "((a)", "(a*", "(((((", "ab|(cd|(e)"):
            self.assertEqual(self.bad(text), len(text), text)
        # empty rows and choices, and stars behind nothing
        for text, place in (("()", 1), ("(|a)", 1), ("(a|)", 3), ("a||b", 2), ("(*)", 1), ("a|*", 2), ("a(*b)", 2)):
            self.assertEqual(self.bad(text), place, text)
        # signs that are none of a pattern's
        for text, place in (("aB", 1), ("a b", 1), ("a\n", 1), ("ab)", 2), ("(a))", 3), ("a+", 1), ("a|1", 2), ("(a,b", 2)):
            self.assertEqual(self.bad(text), place, text)
        # the first bad sign is told, whatever stands behind it
        self.assertEqual(self.bad("a))(("), 1)
        self.assertEqual(self.bad("(a" + "Z" * 100), 2)

    def test_the_reckoning_of_bad_places_here(self):
        self.assertTrue(all(begins_one(text) for text in ("", "(", "a|", "((a|", "a*(")))
        self.assertFalse(any(begins_one(text) for text in ("*", "()", "a)", "a||", "A")))

    def test_many_stars(self):
        for stars in (1, 2, 3, 100, 3999):
            self.assertEqual(read_pattern("a" + "*" * stars), ring(1))
        self.assertEqual(read_pattern("(a*)*"), ring(1))
        self.assertEqual(read_pattern("((aa)**)*"), ring(2))
        # the star of a star has far more than 8 states before it, but no star changes it
        text = "(a|b)*a(a|b)(a|b)"
        self.assertEqual(read_pattern(f"({text})***"), read_pattern(f"({text})*"))

    def test_order_and_repetition_of_calls(self):
        texts = [random_pattern(seed) for seed in range(40)]
        first = [read_pattern(text) for text in texts]
        self.assertEqual([read_pattern(text) for text in texts[::-1]], first[::-1])
        self.bad("a(")
        self.assertEqual(read_pattern("a"), line(1))

    def test_as_large_as_allowed(self):
        with without_delay(self):
            self.assertEqual(read_pattern("a*" * 2000), ring(1))
            self.assertEqual(read_pattern("|".join("a" * 2000)), line(1))
            self.assertEqual(read_pattern("." * 4000), EMPTY_RUN)
            self.assertEqual(read_pattern("(" * 40 + "a" + ")" * 40), line(1))
            self.assertEqual(read_pattern("(" * 40 + "a|b" + ")*" * 40), ALL)
            self.assertEqual(self.bad("(" * 40 + "a" + ")" * 39), 80)
            self.assertEqual(self.bad("(a)" * 1333 + "("), 4000)
            self.assertEqual(self.bad("a" * 3999 + ")"), 3999)
            self.assertEqual(self.bad("*" * 4000), 0)
        with without_delay(self):
            self.assertEqual(read_pattern("a" * 63), line(63))
            self.assertEqual(read_pattern("a" * 63 + "|a" * 1900)[1], (1, 63))
            self.assertEqual(len(read_pattern("a" * 62 + "b*" * 1900)[0]), 63)
            self.assertEqual(read_pattern("(aaaaaaaa)*" * 360), ring(8))
        with without_delay(self):
            letters = "abcdefghijklmnopqrstuvwxyz"
            every = "(" + "|".join(letters) + ")"
            self.assertEqual(len(read_pattern(every * 62)[0]), 63)
            self.assertEqual(len(read_pattern((every + "*") * 70)[0]), 1)
            text = "|".join("".join(letters[(at * n) % 26] for n in range(1, 4)) for at in range(13))
            self.assertLessEqual(len(read_pattern((text + "|") * 70 + text)[0]), 64)

    def test_many_different_rows(self):
        pick = random.Random(3)
        rows = ["".join(pick.choice("ab") for _ in range(pick.randint(1, 5))) for _ in range(600)]
        self.assertEqual(read_pattern("|".join(rows)), runs_machine(rows))


def all_machines(many):
    """All machines with exactly that many states and letters among a and b."""
    found = set()
    goals = (None, *range(many))
    for table in product(goals, repeat=2 * many):
        arrows = tuple((at // 2, "ab"[at % 2], there) for at, there in enumerate(table) if there is not None)
        for marks in product((False, True), repeat=many):
            ends = tuple(state for state in range(many) if marks[state])
            machine = machine_of((many, arrows, (0,), ends))
            if len(machine[0]) == many:
                found.add(machine)
    return sorted(found)


class WritePattern(Patterns):
    def check_written(self, machine):
        text = write_pattern(machine)
        self.assertIs(type(text), str)
        self.assertLessEqual(len(text), 4000)
        self.assertTrue(is_pattern(text), text)
        deepest, large, small = sizes_in(text)
        self.assertTrue(deepest <= 40 and large <= 64 and small <= 8, text)
        self.assertEqual(read_pattern(text), machine)
        return text

    def test_edges(self):
        self.assertEqual(read_pattern(write_pattern(EMPTY)), EMPTY)
        self.assertEqual(read_pattern(write_pattern(EMPTY_RUN)), EMPTY_RUN)
        for machine in (EMPTY, EMPTY_RUN, ALL, ring(1), line(1), line(3), ring(4), ring(4, ends=(0, 1, 3))):
            self.check_written(machine)

    def test_all_machines_with_two_states_and_letters(self):
        machines = [EMPTY] + all_machines(1) + all_machines(2)
        self.assertEqual(len(machines), len(set(machines)))
        self.assertGreater(len(machines), 100)
        for machine in machines:
            text = self.check_written(machine)
            self.assertEqual(language(machine, "ab", 5), ordered(runs_in(tree_of(text), 5)))

    def test_many_machines_with_three_and_four_states(self):
        sizes = {}
        for seed in range(1000):
            web = random_web(seed, size=3 + seed % 2, letters="abc"[:seed % 3 + 1], arrows=6 + seed % 7, least=1)
            machine = machine_of(web)
            if len(machine[0]) <= 4:
                sizes[len(machine[0])] = sizes.get(len(machine[0]), 0) + 1
                text = self.check_written(machine)
                if seed % 5 == 0:
                    self.assertEqual(language(machine, "abc", 4), ordered(runs_in(tree_of(text), 4)))
        self.assertGreater(sizes[3], 50)
        self.assertGreater(sizes[4], 50)

    def test_with_an_arrow_for_each_letter(self):
        found = 0
        for seed in range(250):
            pick = random.Random(seed)
            arrows = tuple((state, x, pick.randrange(4)) for state in range(4) for x in "abc")
            machine = machine_of((4, arrows, (0,), tuple(pick.sample(range(4), pick.randint(1, 3)))))
            found += len(machine[0]) == 4
            self.check_written(machine)
        self.assertGreater(found, 150)

    def test_the_same_again(self):
        for seed in range(40):
            machine = machine_of(random_web(seed, arrows=8, least=1))
            self.assertEqual(write_pattern(machine), write_pattern(machine))


if __name__ == "__main__":
    unittest.main()
