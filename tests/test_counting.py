"""Point 6: the walks that meet all sightings."""

import itertools
import unittest
from fractions import Fraction

from sightings.counting import how_many, number_of, share, walk_by
from sightings.errors import BadNumber, BadTick, BadWalk, NoWalk
from tests.helper import GREAT, LEAST, LINE, all_sightings, all_walks, beyond, met, no_numbers, small_lands
from tests.helper import some_questions, valid_walk


def right_walks(land, sightings):
    return sorted(walk for walk in all_walks(land) if met(walk, sightings) == len(sightings))


class Counting(unittest.TestCase):
    def holds(self, land, sightings):
        walks = right_walks(land, sightings)
        self.assertEqual(how_many(land, sightings), len(walks))
        for number, walk in enumerate(walks):
            self.assertEqual(walk_by(land, sightings, number), walk)
            self.assertEqual(number_of(land, sightings, walk), number)
        for number in [-1, len(walks)]:
            with self.assertRaises(BadNumber):
                walk_by(land, sightings, number)
        for tick, place in all_sightings(land):
            self.shares(land, sightings, place, tick, walks)

    def shares(self, land, sightings, place, tick, walks):
        if not walks:
            with self.assertRaises(NoWalk):
                share(land, sightings, place, tick)
            return
        part = Fraction(sum(walk[tick] == place for walk in walks), len(walks))
        told = share(land, sightings, place, tick)
        self.assertIs(type(told), tuple)
        self.assertEqual(told, (part.numerator, part.denominator))

    def test_ordinary(self):
        land = (3, [(0, 1), (1, 2)], 2)
        self.assertEqual(how_many(land, [(0, 0)]), 5)
        self.assertEqual([walk_by(land, [(0, 0)], number) for number in range(5)],
                         [[0, 0, 0], [0, 0, 1], [0, 1, 0], [0, 1, 1], [0, 1, 2]])
        self.assertEqual(number_of(land, [(0, 0)], [0, 1, 1]), 3)
        self.assertEqual(share(land, [(0, 0)], 1, 1), (3, 5))
        self.assertEqual(share(land, [(0, 0)], 2, 1), (0, 1))
        self.assertEqual(share(land, [(0, 0)], 0, 0), (1, 1))

    def test_all_small_lands(self):
        for land in small_lands():
            for many in range(3):
                for sightings in itertools.product(all_sightings(land), repeat=many):
                    self.holds(land, list(sightings))

    def test_longer_walks(self):
        for land, sightings in some_questions(60, 4, 4, 3):
            self.holds(land, sightings)

    def test_least_land(self):
        self.assertEqual(how_many(LEAST, []), 1)
        self.assertEqual(walk_by(LEAST, [(0, 0)] * 8, 0), [0, 0])
        self.assertEqual(share(LEAST, [], 0, 1), (1, 1))

    def test_great_land(self):
        many = how_many(GREAT, [])
        row = [1] * 7
        for _ in range(10):
            row = [sum(row[other] for other in range(7) if valid_walk((7, GREAT[1], 1), [place, other]))
                   for place in range(7)]
        self.assertEqual(many, sum(row))
        self.assertEqual(walk_by(GREAT, [], 0), [0] * 11)
        self.assertEqual(walk_by(GREAT, [], many - 1), [6] * 11)
        before = []
        for number in sorted({*range(0, many, many // 50), many - 1}):
            walk = walk_by(GREAT, [], number)
            self.assertTrue(valid_walk(GREAT, walk))
            self.assertGreater(walk, before)
            self.assertEqual(number_of(GREAT, [], walk), number)
            before = walk
        for number in beyond(0, many - 1):
            with self.assertRaises(BadNumber):
                walk_by(GREAT, [], number)

    def test_shares_of_a_tick_make_a_whole(self):
        for tick in range(11):
            parts = [Fraction(*share(GREAT, [(3, 0), (8, 4)], place, tick)) for place in range(7)]
            self.assertEqual(sum(parts), 1)

    def test_no_walk_that_meets_all(self):
        sightings = [(0, 0), (1, 2)]
        self.assertEqual(how_many(LINE, sightings), 0)
        with self.assertRaises(BadNumber):
            walk_by(LINE, sightings, 0)
        for walk in all_walks(LINE):
            with self.assertRaises(BadWalk):
                number_of(LINE, sightings, walk)
        with self.assertRaises(NoWalk):
            share(LINE, sightings, 0, 0)
        with self.assertRaises(BadTick):
            share(LINE, sightings, 0, 5)

    def test_alike_sightings(self):
        self.assertEqual(how_many(LINE, [(2, 2)] * 8), how_many(LINE, [(2, 2)]))
        self.assertEqual(number_of(LINE, [(2, 2)] * 8, walk_by(LINE, [(2, 2)], 7)), 7)

    def test_no_walk_of_the_land(self):
        for walk in [[], [0], [0, 0, 0, 0], [0] * 6, [0, 2, 2, 2, 2], [0, 0, 0, 0, 4], [0, 0, 0, 0, -1], [0, 0, 0, 0, 3],
                     (0, 0, 0, 0, 0), "00000", b"\0\0\0\0\0", range(5), [0, 0, 0, 0, False], [0, 0, 0, 0, None],
                     [0, 0, "0", 0, 0], [[0]] * 5, [10 ** 5000] * 5, {0: 0, 1: 0, 2: 0, 3: 0, 4: 0}, *no_numbers()]:
            with self.assertRaises(BadWalk):
                number_of(LINE, [], walk)

    def test_a_walk_that_does_not_meet_all(self):
        with self.assertRaises(BadWalk):
            number_of(LINE, [(0, 0), (4, 2)], [0, 0, 1, 1, 1])
        self.assertEqual(number_of(LINE, [(0, 0), (4, 2)], [0, 0, 0, 1, 2]), 0)

    def test_no_numbers_of_walks(self):
        for number in no_numbers():
            with self.assertRaises(BadNumber):
                walk_by(LINE, [], number)


if __name__ == "__main__":
    unittest.main()
