import random
import unittest

from fromruns.errors import BadLine, BadText, FromrunsError
from fromruns.machines import machine_of
from fromruns.reading import read_machine, read_runs
from fromruns.writing import write_machine, write_runs
from tests.reference import complaint, line, random_web, ring, without_delay

EMPTY = ((), ())
EMPTY_RUN = (((),), (0,))
LETTERS = "abcdefghijklmnopqrstuvwxyz"
SIGNS = "".join(chr(number) for number in range(32, 127)) + "\t\n"
RING = "states 2\nend\na 1\nstate\na 0\n"


def is_number(word):
    return word.isascii() and word.isdigit() and len(word) <= 20 and str(int(word)) == word


def has_form(row):
    """Point [31], by its words."""
    if row in ("end", "state"):
        return True
    head, blank, number = row.partition(" ")
    return blank == " " and (head == "states" or len(head) == 1 and head in LETTERS) and is_number(number)


def is_run(row):
    return row == "." or row != "" and set(row) <= set(LETTERS)


def first_wrong(text, right):
    """The number of the first line that is not right, what stands behind the last newline character included."""
    rows = text.split("\n")
    for at, row in enumerate(rows[:-1]):
        if not right(row):
            return at + 1
    return len(rows) if rows[-1] else None


def slow_machine(text):
    """What is told: the machine, BadText, or the number of the bad line."""
    wrong = first_wrong(text, has_form)
    if text == "" or wrong is not None:
        return wrong or 1
    head, *rows = [row.split(" ") for row in text.split("\n")[:-1]]
    told, ends = [], []
    if head[0] != "states":
        return BadText
    for row in rows:
        if row[0] == "states" or len(row) == 2 and not told:
            return BadText
        if len(row) == 2:
            told[-1].append((row[0], int(row[1])))
            continue
        if row[0] == "end":
            ends.append(len(told))
        told.append([])
    machine = tuple(map(tuple, told)), tuple(ends)
    return machine if int(head[1]) == len(told) and complaint(machine) is None else BadText


class ReadRuns(unittest.TestCase):
    def bad(self, text):
        with self.assertRaises(BadLine) as caught:
            read_runs(text)
        self.assertIsInstance(caught.exception, FromrunsError)
        self.assertIs(type(caught.exception.line), int)
        self.assertEqual(vars(caught.exception), {"line": caught.exception.line})
        return caught.exception.line

    def test_right_texts(self):
        self.assertEqual(read_runs(""), ())
        self.assertEqual(read_runs(".\n"), ("",))
        self.assertEqual(read_runs("ab\n"), ("ab",))
        self.assertEqual(read_runs("b\n.\nab\nb\n"), ("b", "", "ab", "b"))
        self.assertEqual(read_runs(LETTERS + "\n"), (LETTERS,))
        self.assertEqual(read_runs("x" * 3999 + "\n"), ("x" * 3999,))

    def test_wrong_lines(self):
        for row in ("", " ", "..", "a.", ".a", " a", "a ", "a b", "A", "aB", "1", "a1", "\t", "a\t", "-", "~", "`", "{"):
            self.assertEqual(self.bad(row + "\n"), 1, row)
            self.assertEqual(self.bad(".\nab\n" + row + "\nb\n"), 3, row)
            self.assertEqual(self.bad(".\nab\n" + row + "\n" + row + "\n"), 3, row)

    def test_without_a_newline_character_at_the_end(self):
        self.assertEqual(self.bad("a"), 1)
        self.assertEqual(self.bad("."), 1)
        self.assertEqual(self.bad(" "), 1)
        self.assertEqual(self.bad("a\nb\nc"), 3)
        # the first wrong line is told, not the last one
        self.assertEqual(self.bad("a\n\nc"), 2)
        self.assertEqual(self.bad("\n"), 1)
        self.assertEqual(self.bad("a\n\n"), 2)

    def test_any_texts(self):
        right = 0
        for seed in range(3000):
            pick = random.Random(seed)
            signs = pick.choice(("a.\n", "ab.\n\n", "az.\n A", SIGNS))
            text = "".join(pick.choice(signs) for _ in range(pick.randint(0, 8))) + pick.choice(("", "\n"))
            wrong = first_wrong(text, is_run)
            if wrong is not None:
                self.assertEqual(self.bad(text), wrong)
                continue
            right += 1
            told = read_runs(text)
            self.assertIs(type(told), tuple)
            self.assertEqual(write_runs(told), text)
        self.assertGreater(right, 300)

    def test_as_large_as_allowed(self):
        with without_delay(self):
            self.assertEqual(read_runs(".\n" * 2000), ("",) * 2000)
            self.assertEqual(self.bad(".\n" * 1999 + "\n"), 2000)
            self.assertEqual(self.bad("a\n" * 1999 + "a"), 2000)


class ReadMachine(unittest.TestCase):
    def bad_line(self, text):
        with self.assertRaises(BadLine) as caught:
            read_machine(text)
        self.assertIs(type(caught.exception.line), int)
        self.assertEqual(vars(caught.exception), {"line": caught.exception.line})
        return caught.exception.line

    def bad_text(self, text):
        with self.assertRaises(BadText) as caught:
            read_machine(text)
        self.assertIsInstance(caught.exception, FromrunsError)
        self.assertEqual(vars(caught.exception), {})

    def test_right_texts(self):
        self.assertEqual(read_machine("states 0\n"), EMPTY)
        self.assertEqual(read_machine("states 1\nend\n"), EMPTY_RUN)
        self.assertEqual(read_machine(RING), ring(2))
        self.assertEqual(read_machine("states 1\nend\na 0\nz 0\n"), (((("a", 0), ("z", 0)),), (0,)))
        every = "states 1\nend\n" + "".join(letter + " 0\n" for letter in LETTERS)
        self.assertEqual(read_machine(every), ((tuple((letter, 0) for letter in LETTERS),), (0,)))

    def test_lines_without_form(self):
        rows = ["", " ", "states", "states ", "states  2", " states 2", "states 2 ", "states 02", "states -1"]
        rows += ["states +1", "states 1 1", "states x", "State", "End", "end ", " end", "end 1", "state 1", "state  1"]
        rows += ["a", "a ", "a  1", " a 1", "a 1 ", "a 01", "a 00", "a -0", "a +1", "a 1 2", "A 1", "ab 1", "1 a", "1 1"]
        rows += ["a\t1", "a 1\t", "\ta 1", ". 1", "! 0", "a .", "a 1.", "a 1a", "a 0x1", "a 1_0", "a " + "1" * 21, "{ 1"]
        rows += ["states " + "9" * 21, "states " + "0" * 20, "a " + "0" * 21, "` 0", "st ates 1", "states\t1", "- 1"]
        for row in rows:
            self.assertFalse(has_form(row), row)
            self.assertEqual(self.bad_line(row + "\n"), 1, row)
            self.assertEqual(self.bad_line(row + "\n" + RING), 1, row)
            self.assertEqual(self.bad_line(RING + row + "\n"), 6, row)
            self.assertEqual(self.bad_line("states 2\n" + row + "\nend\n" + row + "\n"), 2, row)

    def test_without_a_newline_character_at_the_end(self):
        self.assertEqual(self.bad_line(""), 1)
        self.assertEqual(self.bad_line("\n"), 1)
        self.assertEqual(self.bad_line("states 0"), 1)
        self.assertEqual(self.bad_line("x"), 1)
        self.assertEqual(self.bad_line(RING[:-1]), 5)
        self.assertEqual(self.bad_line(RING + "end"), 6)
        self.assertEqual(self.bad_line(RING + " "), 6)
        self.assertEqual(self.bad_line(RING + "\n"), 6)
        # a line without form is told before the whole text is looked at, and the first one of several
        self.assertEqual(self.bad_line("end\nend"), 2)
        self.assertEqual(self.bad_line("end\n\nend"), 2)

    def test_numbers(self):
        # 20 figures are a number, but there are not so many states
        self.bad_text("states " + "9" * 20 + "\n")
        self.bad_text("states 1\nend\na " + "1" * 20 + "\n")
        self.assertEqual(self.bad_line("states 1\nend\na " + "1" * 21 + "\n"), 3)
        self.bad_text("states 10\nend\n")
        self.assertEqual(read_machine(write_machine(line(11))), line(11))

    def test_texts_of_no_machine(self):
        wrong = ["end\n", "state\n", "a 0\n", "states 1\n", "states 0\nend\n", "states 2\nend\n", "states 1\nend\nend\n"]
        wrong += ["states 1\nstate\n", "states 1\nstate\na 0\n", "states 0\nstates 0\n", "states 1\nend\nstates 1\n"]
        wrong += ["states 1\nend\nstates 0\n", "states 2\nend\na 1\nstates 0\nstate\na 0\n", "states 1\nstates 1\nend\n"]
        wrong += ["states 0\na 0\n", "states 1\na 0\nend\n", "end\nstates 1\n", "states 1\nend\na 1\n"]
        # a letter twice, and letters that are not ascending
        wrong += ["states 1\nend\na 0\na 0\n", "states 1\nend\nb 0\na 0\n", "states 2\nend\na 0\na 1\nstate\na 0\n"]
        # a state that nothing leads to, one that leads to no end, two with the same runs to ends, another numbering
        wrong += ["states 2\nend\nend\na 0\n", "states 2\nend\na 1\nstate\n", "states 2\nend\na 1\nend\na 0\n"]
        wrong += ["states 3\nend\na 2\nb 1\nstate\nc 0\nstate\nd 0\n", "states 2\nstate\na 0\nend\na 0\n"]
        for text in wrong:
            self.assertIs(slow_machine(text), BadText, text)
            self.bad_text(text)
        self.assertEqual(read_machine("states 3\nend\na 1\nb 2\nstate\nc 0\nstate\nd 0\n")[1], (0,))

    def told(self, text):
        try:
            return read_machine(text)
        except BadLine as error:
            return error.line
        except BadText:
            return BadText

    def test_any_lines_that_have_a_form(self):
        right = 0
        for seed in range(6000):
            pick = random.Random(seed)
            many = pick.randint(0, 3)
            text = f"states {many}\n"
            for _ in range(many):
                text += pick.choice(("end\n", "end\n", "state\n"))
                for letter in "ab":
                    if pick.random() < 0.6:
                        text += f"{letter} {pick.randrange(many)}\n"
            wanted = slow_machine(text)
            self.assertEqual(self.told(text), wanted, text)
            if wanted is not BadText:
                right += 1
                self.assertEqual(write_machine(wanted), text)
        self.assertGreater(right, 1000)

    def test_texts_with_a_change(self):
        kinds = {}
        for seed in range(4000):
            pick = random.Random(seed)
            machine = machine_of(random_web(seed % 40, letters="abc", arrows=8, least=1))
            text = write_machine(machine)
            at = pick.randint(0, len(text))
            text = text[:at] + pick.choice(("", pick.choice(SIGNS), " ", "0", "1", "\n")) + text[at + pick.randint(0, 2):]
            rows = text.split("\n")
            if pick.random() < 0.4:
                pick.shuffle(rows)
            if pick.random() < 0.2:
                rows.insert(pick.randint(0, len(rows)), pick.choice(rows))
            text = "\n".join(rows)
            wanted = slow_machine(text)
            self.assertEqual(self.told(text), wanted, text)
            kind = "line" if type(wanted) is int else "machine" if type(wanted) is tuple else "text"
            kinds[kind] = kinds.get(kind, 0) + 1
        self.assertGreater(min(kinds["line"], kinds["machine"], kinds["text"]), 50)

    def test_as_large_as_allowed(self):
        arrows = tuple((at, x, (at * 7 + 3 * n + 1) % 64) for at in range(64) for n, x in enumerate("abcdef"))
        text = write_machine(machine_of((64, arrows, (0,), (5,))))
        self.assertLessEqual(len(text), 4000)
        with without_delay(self):
            self.assertEqual(write_machine(read_machine(text)), text)
            self.bad_text("states 665\n" + "state\n" * 664 + "end\n")
            self.bad_text("states 64\n" + text.split("\n", 1)[1].replace("end", "state"))
            self.bad_text("states 1\nend\n" + "a 0\n" * 990)
            self.bad_text("end\n" * 1000)
            self.assertEqual(self.bad_line("end\n" * 999 + "end "), 1000)
            self.assertEqual(self.bad_line("\n" * 4000), 1)


if __name__ == "__main__":
    unittest.main()
