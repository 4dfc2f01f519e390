"""Reading the texts of runs and of machines."""

from fromruns.errors import BadLine, BadText
from fromruns.parts import machine_between

LETTERS = "abcdefghijklmnopqrstuvwxyz"
FIGURES = "0123456789"
MOST_FIGURES = 20


def read_runs(text):
    """Return the tuple of the runs whose text it is; raise BadLine with the first line that is wrong."""
    lines = whole_lines(text, is_run_line)
    return tuple(["" if line == "." else line for line in lines])


def whole_lines(text, is_right):
    """Return the list of the lines of the text; raise BadLine with the first one that is not right."""
    *lines, rest = text.split("\n")
    for at, line in enumerate(lines):
        if not is_right(line):
            raise BadLine(at + 1)
    if rest != "":
        raise BadLine(len(lines) + 1)
    return lines


def is_run_line(line):
    """Tell whether the line is the text of a run."""
    return line == "." or line != "" and all([sign in LETTERS for sign in line])


def read_machine(text):
    """Return the machine whose text it is; raise BadLine for a line of no form, otherwise BadText."""
    lines = whole_lines(text, has_form)
    if not lines:
        raise BadLine(1)
    machine = machine_told(lines)
    if machine is None:
        raise BadText("the text is not the text of a machine")
    return machine


def has_form(line):
    """Tell whether the line has one of the forms of the lines of a machine."""
    if line in ("end", "state"):
        return True
    words = line.split(" ")
    return len(words) == 2 and (words[0] == "states" or is_letter(words[0])) and is_number(words[1])


def is_letter(word):
    """Tell whether the word is a single letter."""
    return len(word) == 1 and word in LETTERS


def is_number(word):
    """Tell whether the word is the text of an integer."""
    if not 1 <= len(word) <= MOST_FIGURES or not all([sign in FIGURES for sign in word]):
        return False
    return word == "0" or word[0] != "0"


def machine_told(lines):
    """Return the machine that the lines tell, each of which has a form, or None if they tell none."""
    first, *more = [line.split(" ") for line in lines]
    if not is_shaped(first, more):
        return None
    rows, ends = rows_told(more)
    if not all([is_orderly(row, len(rows)) for row in rows]):
        return None
    machine = tuple([tuple(row) for row in rows]), tuple(ends)
    # Only what is in the one form already stays as it is when it is brought into this form.
    return machine if machine == machine_between(rows, 0, ends) else None


def is_shaped(first, more):
    """Tell whether the first line tells the number of the states, and the lines behind it are states and their arrows.

    The lines are told as the lists of their words.
    """
    if first[0] != "states" or any([words[0] == "states" for words in more]):
        return False
    states = [words for words in more if len(words) == 1]
    return int(first[1]) == len(states) and more[:1] == states[:1]


def rows_told(lines):
    """Return the list of the lists of the arrows of the states, and the list of the ends."""
    rows = []
    ends = []
    for words in lines:
        if words[0] == "end":
            ends.append(len(rows))
        if len(words) == 1:
            rows.append([])
        else:
            rows[-1].append((words[0], int(words[1])))
    return rows, ends


def is_orderly(row, many):
    """Tell whether the arrows lead to some of that many states, and their letters are ascending, each once."""
    letters = [letter for letter, _ in row]
    return letters == sorted(set(letters)) and all([there < many for _, there in row])
