"""Patterns: machines written with choices, rows and stars."""

from fromruns.combining import either, followed, many
from fromruns.errors import BadPattern
from fromruns.machines import arrows_of, runs_machine
from fromruns.reducing import EMPTY, EMPTY_RUN

SIMPLE_ATOMS = "abcdefghijklmnopqrstuvwxyz.!"


class Choice:
    """A choice that is being read: its rows before the last one, the pieces of this row before its last one, and it.

    Each of them is a machine, or None if there is none yet.
    """

    def __init__(self):
        self.rows = None
        self.pieces = None
        self.piece = None
        self.has_star = False

    def put(self, atom):
        """Begin a piece with the machine of its atom."""
        self.end_piece()
        self.piece = atom
        self.has_star = False

    def star(self):
        """Put a star behind the piece."""
        # A star behind a star does not change what is meant.
        if not self.has_star:
            self.piece = many(self.piece)
        self.has_star = True

    def end_piece(self):
        """Put the piece behind those before it."""
        if self.pieces is None:
            self.pieces = self.piece
        else:
            self.pieces = followed(self.pieces, self.piece)

    def end_row(self):
        """Put the row behind those before it."""
        self.end_piece()
        if self.rows is None:
            self.rows = self.pieces
        else:
            self.rows = either(self.rows, self.pieces)
        self.pieces = None
        self.piece = None


def read_pattern(text):
    """Return the machine of the pattern; raise BadPattern with the bad place of the text if it is not a pattern."""
    place = bad_place(text)
    if place is not None:
        raise BadPattern(place)
    begun = [Choice()]
    for sign in text:
        if sign == "(":
            begun.append(Choice())
        elif sign == ")":
            choice = begun.pop()
            choice.end_row()
            begun[-1].put(choice.rows)
        elif sign == "*":
            begun[-1].star()
        elif sign == "|":
            begun[-1].end_row()
        else:
            begun[-1].put(simple_machine(sign))
    begun[0].end_row()
    return begun[0].rows


def bad_place(text):
    """Return the number of characters of the longest beginning that a pattern has, too, or None for a pattern."""
    depth = 0
    # What has an atom may go on with anything that is not closed too often; without one, only an atom may follow.
    has_atom = False
    for at, sign in enumerate(text):
        if sign == "(":
            depth += 1
            has_atom = False
        elif sign in SIMPLE_ATOMS:
            has_atom = True
        elif not has_atom or sign not in "*|)" or sign == ")" and depth == 0:
            return at
        elif sign == "|":
            has_atom = False
        elif sign == ")":
            depth -= 1
    return None if has_atom and depth == 0 else len(text)


def simple_machine(sign):
    """Return the machine of an atom of a single character."""
    if sign == "!":
        return EMPTY
    return EMPTY_RUN if sign == "." else runs_machine((sign,))


def write_pattern(machine):
    """Return a pattern of the machine's language."""
    rows, ends = machine
    if not rows:
        return "!"
    # From state to state, and from the ends to a place behind all states, lead ways; a way is a row of a pattern.
    ways = {(end, len(rows)): ["."] for end in ends}
    for state, letter, there in arrows_of(machine):
        ways.setdefault((state, there), []).append(letter)
    for state in reversed(range(1, len(rows))):
        ways = ways_past(ways, state)
    return joined([starred(ways.get((0, 0), [])), atom_of(ways[(0, len(rows))])])


def ways_past(ways, state):
    """Return the ways in which the state is left out, for each pair of others, with those that led through it."""
    around = starred(ways.get((state, state), []))
    found = {pair: list(rows) for pair, rows in ways.items() if state not in pair}
    for start, there in ways:
        if there == state and start != state:
            for other, goal in ways:
                if other == state and goal != state:
                    way = joined([atom_of(ways[(start, state)]), around, atom_of(ways[(state, goal)])])
                    found.setdefault((start, goal), []).append(way)
    return found


def atom_of(rows):
    """Return a choice of the rows as part of a row."""
    return rows[0] if len(rows) == 1 else "(" + "|".join(rows) + ")"


def starred(rows):
    """Return a part of a row that means any number of the rows one after the other."""
    if not rows:
        return "."
    choice = "|".join(rows)
    return choice + "*" if len(choice) == 1 else "(" + choice + ")*"


def joined(parts):
    """Return a row of the parts, without those that mean only the empty run."""
    return "".join([part for part in parts if part != "."]) or "."
