"""Point 1: what is refused, in which order, and that nothing handed in or told is tied to anything else."""

import copy
import itertools
import unittest

from sightings import errors
from sightings.answers import Barred, Kept, There
from sightings.counting import how_many, number_of, share, walk_by
from sightings.errors import BadLand, BadNumber, BadPlace, BadSightings, BadTick, BadWalk, BadWrong, NoWalk, SightError
from sightings.seeking import kept, steps, there
from tests.helper import LINE, beyond, no_numbers

SEEN = [(0, 0), (2, 2)]
LANDS = no_numbers() + [0, (), (2, []), [4, [], 4], (True, [], 1), (2, [(1, 0)], 1), (8, [], 1), (1, [], 0), (1, [], 11)]
SIGHTINGS = no_numbers() + [0, (), [(5, 0)], [(0, 4)], [(0, -1)], [(-1, 0)], [(0, 0)] * 9, [[0, 0]], [(0, True)]]
PLACES = no_numbers() + beyond(0, 3)
TICKS = no_numbers() + beyond(0, 4)
WRONGS = no_numbers() + beyond(0, 2)
NUMBERS = no_numbers() + beyond(0, 4)
WALKS = no_numbers() + [0, [], (0, 1, 2, 1, 0), [0, 1, 2, 1], [0, 2, 2, 2, 2], [1, 1, 2, 1, 0], [False, 1, 2, 1, 0]]

BOTH = [(BadLand, LANDS), (BadSightings, SIGHTINGS)]
# Each door with what it takes, and what it refuses, in the order of the refusals.
DOORS = [
    (steps, (LINE, 0, 2), [(BadLand, LANDS), (BadPlace, PLACES), (BadPlace, PLACES)]),
    (kept, (LINE, SEEN), BOTH),
    (there, (LINE, SEEN, 1, 1, 0), BOTH + [(BadPlace, PLACES), (BadTick, TICKS), (BadWrong, WRONGS)]),
    (how_many, (LINE, SEEN), BOTH),
    (walk_by, (LINE, SEEN, 0), BOTH + [(BadNumber, NUMBERS)]),
    (number_of, (LINE, SEEN, [0, 1, 2, 1, 0]), BOTH + [(BadWalk, WALKS)]),
    (share, (LINE, SEEN, 1, 1), BOTH + [(BadPlace, PLACES), (BadTick, TICKS)]),
    (share, (LINE, [(0, 0), (0, 1)], 1, 1), BOTH + [(BadPlace, PLACES), (BadTick, TICKS)]),
]


class Refusals(unittest.TestCase):
    def refuses(self, error, door, told):
        with self.assertRaises(SightError) as caught:
            door(*told)
        self.assertIs(type(caught.exception), error)

    def test_how_many_walks_these_have(self):
        self.assertEqual(how_many(LINE, SEEN), 5)

    def test_one_at_a_time(self):
        for door, good, refusals in DOORS:
            before = copy.deepcopy(good)
            for at, (error, things) in enumerate(refusals):
                for thing in things:
                    self.refuses(error, door, (*good[:at], thing, *good[at + 1:]))
            self.assertEqual(good, before)

    def test_two_at_once(self):
        for door, good, refusals in DOORS:
            for first, second in itertools.combinations(range(len(refusals)), 2):
                error, things = refusals[first]
                others = itertools.cycle(refusals[second][1])
                for thing, other in zip(things, others):
                    told = list(good)
                    told[first] = thing
                    told[second] = other
                    self.refuses(error, door, told)

    def test_all_at_once(self):
        for door, good, refusals in DOORS:
            for thing in no_numbers():
                self.refuses(BadLand, door, [thing] * len(good))

    def test_no_walk_comes_last(self):
        self.refuses(NoWalk, share, (LINE, [(0, 0), (0, 1)], 1, 1))

    def test_what_is_refused_stays_as_it_is(self):
        ways = [(0, 1), (0, 1)]
        sightings = [(0, 0), (9, 9)]
        walk = [0, 1, 2, 3, 4]
        self.refuses(BadLand, kept, ((4, ways, 4), sightings))
        self.refuses(BadSightings, kept, (LINE, sightings))
        self.refuses(BadWalk, number_of, (LINE, SEEN, walk))
        self.assertEqual((ways, sightings, walk), ([(0, 1), (0, 1)], [(0, 0), (9, 9)], [0, 1, 2, 3, 4]))

    def test_error_classes(self):
        names = ["BadLand", "BadPlace", "BadTick", "BadSightings", "BadWrong", "BadNumber", "BadWalk", "BadHand", "BadOwn",
                 "NoWalk", "Unlike", "TooMany"]
        for name in names:
            self.assertEqual(getattr(errors, name).__bases__, (SightError,))
        self.assertEqual(SightError.__bases__, (ValueError,))


class Ties(unittest.TestCase):
    def told(self, land, sightings):
        """All that is told of them, by every door."""
        one = kept(land, sightings)
        yes = there(land, sightings, 1, 1, 1)
        no = there(land, sightings, 3, 1, 0)
        return [one.walk, one.marks, yes.walk, no.marks, walk_by(land, sightings, 0)], [
            steps(land, 0, 2), how_many(land, sightings), number_of(land, sightings, [0, 1, 2, 1, 0]),
            share(land, sightings, 1, 3), one.shows(land, sightings), yes.shows(land, sightings, 1, 1, 1),
            no.shows(land, sightings, 3, 1, 0)]

    def test_lists_handed_in_stay_as_they_are(self):
        land, sightings = copy.deepcopy((LINE, SEEN))
        self.told(land, sightings)
        self.assertEqual((land, sightings), (LINE, SEEN))
        falling = [(4, 0), (2, 2), (0, 0)]
        walk = [0, 1, 2, 1, 0]
        self.told(land, falling)
        number_of(land, falling, walk)
        self.assertEqual((falling, walk), ([(4, 0), (2, 2), (0, 0)], [0, 1, 2, 1, 0]))

    def test_lists_told_may_be_changed(self):
        first = self.told(LINE, SEEN)
        again = copy.deepcopy(first)
        for row in first[0]:
            row.clear()
        self.assertEqual(self.told(LINE, SEEN), again)

    def test_lists_handed_in_may_be_changed_afterwards(self):
        land, sightings = copy.deepcopy((LINE, SEEN))
        first = self.told(land, sightings)
        again = copy.deepcopy(first)
        land[1].clear()
        sightings.append((4, 0))
        self.assertEqual(first, again)
        self.assertEqual(steps(land, 0, 2), None)
        self.assertEqual(how_many(land, sightings), 0)

    def test_fields_are_copies(self):
        walk, marks = [0, 1, 2, 1, 0], [1, 2]
        answers = [Kept(walk, marks), There(walk), Barred(marks)]
        walk.append(7)
        marks.clear()
        self.assertEqual((answers[0].walk, answers[0].marks), ([0, 1, 2, 1, 0], [1, 2]))
        self.assertEqual((answers[1].walk, answers[2].marks), ([0, 1, 2, 1, 0], [1, 2]))

    def test_shows_changes_nothing(self):
        answer = Kept([0, 1, 2, 1, 0], [2, 1])
        answer.shows(LINE, SEEN)
        self.assertEqual(vars(answer), {"walk": [0, 1, 2, 1, 0], "marks": [2, 1]})
        self.assertEqual(set(vars(There([]))), {"walk"})
        self.assertEqual(set(vars(Barred([]))), {"marks"})


if __name__ == "__main__":
    unittest.main()
