"""Slow and plain definitions of patterns, by their words in DOC.md.

Nothing here but sizes_in uses the package.
"""

import random
from functools import lru_cache

from fromruns.combining import either, followed, many
from fromruns.machines import runs_machine

ATOMS = "abcdefghijklmnopqrstuvwxyz.!"


class NoPattern(Exception):
    """The text is not a pattern."""


def tree_of(text):
    """A choice is a list of rows, a row a list of pairs of an atom and its stars; an atom is a sign or a choice."""
    tree, at = choice_at(text, 0)
    if at < len(text):
        raise NoPattern
    return tree


def choice_at(text, at):
    rows = []
    while True:
        row, at = row_at(text, at)
        rows.append(row)
        if text[at:at + 1] != "|":
            return rows, at
        at += 1


def row_at(text, at):
    pieces = []
    while text[at:at + 1] and text[at] in ATOMS + "(":
        if text[at] == "(":
            atom, at = choice_at(text, at + 1)
            if text[at:at + 1] != ")":
                raise NoPattern
        else:
            atom = text[at]
        at += 1
        stars = 0
        while text[at:at + 1] == "*":
            stars += 1
            at += 1
        pieces.append((atom, stars))
    if not pieces:
        raise NoPattern
    return pieces, at


def is_pattern(text):
    try:
        tree_of(text)
    except NoPattern:
        return False
    return True


@lru_cache(maxsize=None)
def begins_one(text):
    """Whether some pattern begins with the text: at most a letter and some closing parentheses are missing."""
    return any(is_pattern(text + more + ")" * many) for more in ("", "a") for many in range(len(text) + 1))


def slow_bad_place(text):
    """Point [33], or None for a pattern."""
    if is_pattern(text):
        return None
    return max(at for at in range(len(text) + 1) if begins_one(text[:at]))


def runs_in(tree, most):
    """The set of the runs of the pattern with at most that many letters."""
    found = set()
    for row in tree:
        runs = {""}
        for atom, stars in row:
            runs = pasted(runs, piece_runs(atom, stars, most), most)
        found |= runs
    return found


def piece_runs(atom, stars, most):
    if isinstance(atom, str):
        runs = {"!": set(), ".": {""}}.get(atom, {atom} if most else set())
    else:
        runs = runs_in(atom, most)
    for _ in range(stars):
        runs = repeated(runs, most)
    return runs


def pasted(first, second, most):
    return {run + more for run in first for more in second if len(run + more) <= most}


def repeated(runs, most):
    found = {""}
    while True:
        more = found | pasted(found, runs, most)
        if more == found:
            return found
        found = more


def sizes_in(text):
    """What point [32] bounds: the deepest parentheses, the most states of what has 64 at most, and of what has 8."""
    deepest = max(text[:at].count("(") - text[:at].count(")") for at in range(len(text) + 1))
    large, small = [0], [0]
    machine_in(tree_of(text), large, small)
    return deepest, max(large), max(small)


def machine_in(tree, large, small):
    """The machine of the choice; the sizes of all machines on the way are put into the lists."""
    choice = None
    for row in tree:
        pieces = None
        for atom, stars in row:
            if isinstance(atom, str):
                machine = runs_machine({"!": (), ".": ("",)}.get(atom, (atom,)))
            else:
                machine = machine_in(atom, large, small)
            large.append(len(machine[0]))
            if stars:
                small.append(len(machine[0]))
                machine = many(machine)
                large.append(len(machine[0]))
            if pieces is not None:
                small.append(len(machine[0]))
                machine = followed(pieces, machine)
            pieces = machine
            large.append(len(machine[0]))
        choice = pieces if choice is None else either(choice, pieces)
        large.append(len(choice[0]))
    return choice


def random_pattern(seed, most=12, letters="ab"):
    """A pattern with about that many signs at most."""
    pick = random.Random(seed)
    text = ""
    depth = 0
    while len(text) < most or text[-1] in "(|":
        if text == "" or text[-1] in "(|":
            sign = pick.choice(letters * 2 + ".!((")
        else:
            sign = pick.choice(letters * 2 + ".!(|**)")
        if sign == ")" and depth == 0 or sign == "(" and len(text) >= most:
            continue
        depth += {"(": 1, ")": -1}.get(sign, 0)
        text += sign
    return text + ")" * depth
