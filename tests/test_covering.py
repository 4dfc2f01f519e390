import random
import unittest

from fromruns.covering import covers_of, uncovered
from tests.reference import all_runs, without_delay


def random_moves(seed, many=6, letters="ab"):
    """Moves of a web with these places, told as strings, and its ends."""
    pick = random.Random(seed)
    names = [f"p{at}" for at in range(many)]
    moves = {name: {} for name in names}
    for name in names:
        for letter in letters:
            goals = [other for other in names if pick.random() < 0.25]
            if goals:
                moves[name][letter] = goals
    return moves, {name: True for name in names if pick.random() < 0.4}


def taken_from(moves, ends, places, run):
    for letter in run:
        places = {there for place in places for there in moves[place].get(letter, ())}
    return any(place in ends for place in places)


class Covering(unittest.TestCase):
    def test_what_covers_takes_all_that_is_covered(self):
        found = 0
        for seed in range(150):
            moves, ends = random_moves(seed)
            covers = covers_of(moves, ends)
            self.assertEqual(list(covers), list(moves))
            for place in moves:
                self.assertNotIn(place, covers[place])
                for other in covers[place]:
                    found += 1
                    self.assertNotIn(place, covers[other])
                    self.assertLessEqual(set(covers[other]), set(covers[place]))
                    for run in all_runs("ab", 4):
                        if taken_from(moves, ends, [place], run):
                            self.assertTrue(taken_from(moves, ends, [other], run))
        self.assertGreater(found, 200)

    def test_what_is_left_takes_the_same(self):
        shorter = 0
        for seed in range(150):
            moves, ends = random_moves(seed)
            covers = covers_of(moves, ends)
            pick = random.Random(seed)
            places = [place for place in moves if pick.random() < 0.7]
            left = uncovered(places, covers)
            self.assertLessEqual(set(left), set(places))
            self.assertEqual(bool(left), bool(places))
            shorter += len(left) < len(places)
            for run in all_runs("ab", 4):
                self.assertEqual(taken_from(moves, ends, left, run), taken_from(moves, ends, places, run))
        self.assertGreater(shorter, 50)

    def test_edges(self):
        self.assertEqual(covers_of({}, {}), {})
        self.assertEqual(uncovered([], {}), [])
        # of two that take the same, the earlier one stays
        self.assertEqual(covers_of({"p": {}, "q": {}}, {}), {"p": {}, "q": {"p": True}})
        self.assertEqual(covers_of({"p": {}, "q": {}}, {"q": True}), {"p": {"q": True}, "q": {}})

    def test_many_places(self):
        moves, ends = random_moves(1, many=60)
        with without_delay(self):
            covers_of(moves, ends)
            row = {at: {"a": [(at + 1) % 340]} for at in range(340)}
            self.assertEqual(len(uncovered(list(row), covers_of(row, dict.fromkeys(range(340), True)))), 1)


if __name__ == "__main__":
    unittest.main()
