"""Points 2 and 3: lands, walks, least ways, sightings, which go together."""

import unittest

from sightings.answers import There
from sightings.errors import BadLand, BadPlace, BadSightings
from sightings.seeking import kept, steps, there
from tests.helper import GREAT, LEAST, LINE, all_sightings, all_walks, beyond, distances, met, no_numbers, small_lands


class Lands(unittest.TestCase):
    def refuses(self, land):
        with self.assertRaises(BadLand) as caught:
            steps(land, 0, 0)
        self.assertIs(type(caught.exception), BadLand)

    def test_edges_are_lands(self):
        chain = [(at, at + 1) for at in range(6)]
        for land in [LEAST, GREAT, (1, [], 10), (7, [], 1), (2, [(0, 1)], 1), (7, chain, 10)]:
            self.assertEqual(steps(land, 0, 0), 0)

    def test_things_that_are_no_lands(self):
        for thing in no_numbers() + beyond(0, 0):
            self.refuses(thing)

    def test_lengths_and_kinds_of_a_land(self):
        for land in [(), (2,), (2, []), (2, [], 1, 1), [2, [], 1], (2, (), 1), (2, {}, 1), (2, None, 1), (2, "", 1)]:
            self.refuses(land)

    def test_places_and_last_tick_of_a_land(self):
        for thing in no_numbers() + beyond(1, 7):
            self.refuses((thing, [], 1))
        for thing in no_numbers() + beyond(1, 10):
            self.refuses((1, [], thing))

    def test_ways_of_a_land(self):
        for thing in no_numbers():
            self.refuses((3, thing, 1))
            self.refuses((3, [thing], 1))
            self.refuses((3, [(0, 1), thing], 1))
            self.refuses((3, [(thing, 1)], 1))
            self.refuses((3, [(0, thing)], 1))
        for number in beyond(0, 2):
            self.refuses((3, [(0, number)], 1))
            self.refuses((3, [(number, 2)], 1))
        for ways in [[(1, 0)], [(1, 1)], [(0, 1), (0, 1)], [(0, 2), (0, 1)], [(1, 2), (0, 1)], [[0, 1]], [(0, 1, 2)]]:
            self.refuses((3, ways, 1))
        self.refuses((1, [(0, 1)], 1))

    def test_eleven_ways(self):
        ways = GREAT[1] + [(5, 6)]
        self.assertEqual(steps((7, ways[1:], 1), 4, 6), 2)
        self.refuses((7, ways, 1))


class Steps(unittest.TestCase):
    def test_ordinary(self):
        self.assertEqual([steps(LINE, 0, to) for to in range(4)], [0, 1, 2, None])
        self.assertEqual([steps(LINE, 2, to) for to in range(4)], [2, 1, 0, None])
        self.assertEqual([steps(LINE, 3, to) for to in range(4)], [None, None, None, 0])

    def test_the_last_tick_does_not_count(self):
        chain = (7, [(at, at + 1) for at in range(6)], 1)
        self.assertEqual(steps(chain, 0, 6), 6)
        self.assertEqual(steps(chain, 6, 0), 6)

    def test_all_small_lands_and_a_great_one(self):
        for land in [*small_lands(4, 1), GREAT]:
            far = distances(land)
            told = [[steps(land, one, other) for other in range(land[0])] for one in range(land[0])]
            self.assertEqual(told, far)

    def test_bad_places(self):
        for thing in no_numbers() + beyond(0, 3):
            for one, other in [(thing, 0), (0, thing), (thing, thing)]:
                with self.assertRaises(BadPlace):
                    steps(LINE, one, other)
                with self.assertRaises(BadLand):
                    steps(None, one, other)


class Sightings(unittest.TestCase):
    def refuses(self, land, sightings):
        with self.assertRaises(BadSightings) as caught:
            kept(land, sightings)
        self.assertIs(type(caught.exception), BadSightings)

    def test_none_and_eight_and_alike_ones(self):
        for many in range(9):
            self.assertEqual(met(kept(LINE, [(4, 3)] * many).walk, [(4, 3)] * many), many)

    def test_nine(self):
        self.refuses(LINE, [(4, 3)] * 9)

    def test_things_that_are_no_sightings(self):
        for thing in no_numbers():
            self.refuses(LINE, [thing])
            self.refuses(LINE, [(0, 0), thing])
            self.refuses(LINE, [(thing, 0)])
            self.refuses(LINE, [(0, thing)])
            self.refuses(LINE, thing)
        for thing in [(), ((0, 0),), [[0, 0]], [(0,)], [(0, 0, 0)], {(0, 0)}, {(0, 0): 0}, "ab"]:
            self.refuses(LINE, thing)

    def test_ticks_and_places_out_of_the_land(self):
        for tick in beyond(0, 4):
            self.refuses(LINE, [(tick, 0)])
        for place in beyond(0, 3):
            self.refuses(LINE, [(0, place)])

    def test_two_go_together_if_some_walk_meets_both(self):
        for land in small_lands():
            walks = all_walks(land)
            for one in all_sightings(land):
                for tick, place in all_sightings(land):
                    some = any(met(walk, [one, (tick, place)]) == 2 for walk in walks)
                    self.assertEqual(met(kept(land, [one, (tick, place)]).walk, [one, (tick, place)]), 1 + some)
                    self.assertEqual(isinstance(there(land, [one], place, tick, 0), There), some)


if __name__ == "__main__":
    unittest.main()
