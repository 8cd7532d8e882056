"""Point 5: a walk that is there then with so many wrong, or marks by which there is none."""

import itertools
import unittest

from sightings.answers import Answer, Barred, There
from sightings.seeking import there
from tests.helper import GREAT, LEAST, LINE, all_sightings, all_walks, is_barred, is_there, met, small_lands
from tests.helper import some_questions


class Told(unittest.TestCase):
    def holds(self, land, sightings, *asked):
        """Tell whether it can be, after the answer was held against the document."""
        answer = there(land, sightings, *asked)
        self.assertIn(type(answer), (There, Barred))
        can = isinstance(answer, There)
        numbers = answer.walk if can else [mark for mark in answer.marks if mark is not None]
        self.assertTrue({type(number) for number in numbers} <= {int})
        right = is_there(land, sightings, *asked, answer.walk) if can else is_barred(land, sightings, *asked, answer.marks)
        self.assertTrue(right)
        self.assertIs(answer.shows(land, sightings, *asked), True)
        return can

    def test_ordinary(self):
        sightings = [(0, 0), (2, 2), (4, 0), (1, 2), (3, 3)]
        self.assertTrue(self.holds(LINE, sightings, 1, 3, 2))
        self.assertFalse(self.holds(LINE, sightings, 1, 3, 1))
        self.assertFalse(self.holds(LINE, sightings, 3, 0, 3))
        self.assertTrue(self.holds(LINE, sightings, 3, 0, 4))
        self.assertFalse(self.holds(LINE, sightings, 2, 3, 2))

    def test_no_sightings(self):
        for land in [LEAST, LINE, GREAT]:
            for tick, place in all_sightings(land):
                self.assertTrue(self.holds(land, [], place, tick, 0))

    def test_none_wrong_and_all_wrong(self):
        sightings = [(0, 0), (10, 3)]
        self.assertTrue(self.holds(GREAT, sightings, 3, 1, 0))
        self.assertFalse(self.holds(GREAT, sightings, 6, 5, 0))
        self.assertFalse(self.holds(GREAT, sightings, 6, 5, 1))
        self.assertTrue(self.holds(GREAT, sightings, 6, 5, 2))

    def test_sightings_that_do_not_go_together(self):
        sightings = [(5, place) for place in range(7)]
        for place in range(7):
            self.assertFalse(self.holds(GREAT, sightings, place, 5, 5))
            self.assertTrue(self.holds(GREAT, sightings, place, 5, 6))

    def test_alike_sightings(self):
        sightings = [(5, 6)] * 7 + [(5, 0)]
        self.assertFalse(self.holds(GREAT, sightings, 6, 5, 0))
        self.assertTrue(self.holds(GREAT, sightings, 6, 5, 1))
        self.assertFalse(self.holds(GREAT, sightings, 0, 5, 6))
        self.assertTrue(self.holds(GREAT, sightings, 0, 5, 7))

    def held_against(self, land, sightings, walks):
        for tick, place in all_sightings(land):
            most = max(met(walk, sightings) for walk in walks if walk[tick] == place)
            for wrong in range(len(sightings) + 1):
                can = self.holds(land, sightings, place, tick, wrong)
                self.assertEqual(can, most >= len(sightings) - wrong)

    def test_all_walks_of_small_lands(self):
        for land in small_lands():
            walks = all_walks(land)
            for many in range(3):
                for sightings in itertools.combinations_with_replacement(all_sightings(land), many):
                    self.held_against(land, list(sightings), walks)

    def test_all_walks_with_many_sightings(self):
        for land, sightings in some_questions(40, 4, 4, 8):
            self.held_against(land, sightings, all_walks(land))

    def test_great_lands(self):
        for land, sightings in some_questions(40, 7, 10, 8):
            for tick, place in all_sightings(land)[::3]:
                told = [self.holds(land, sightings, place, tick, wrong) for wrong in range(len(sightings) + 1)]
                self.assertEqual(told, sorted(told))
                self.assertTrue(told[-1])


class Shows(unittest.TestCase):
    sightings = [(0, 0), (2, 2), (4, 0), (1, 2), (3, 3)]

    def test_classes(self):
        self.assertEqual(There.__bases__, (Answer,))
        self.assertEqual(Barred.__bases__, (Answer,))
        self.assertIn("shows", vars(There))
        self.assertIn("shows", vars(Barred))

    def walk_says(self, walk, place, tick, wrong):
        return There(walk).shows(LINE, self.sightings, place, tick, wrong)

    def marks_say(self, marks, place, tick, wrong):
        return Barred(marks).shows(LINE, self.sightings, place, tick, wrong)

    def test_walks(self):
        self.assertIs(self.walk_says([0, 1, 2, 1, 0], 1, 3, 2), True)
        self.assertIs(self.walk_says([0, 1, 2, 1, 0], 1, 3, 5), True)
        self.assertIs(self.walk_says([0, 1, 2, 1, 0], 1, 3, 1), False)
        self.assertIs(self.walk_says([0, 1, 2, 1, 0], 1, 2, 2), False)
        self.assertIs(self.walk_says([0, 1, 2, 1, 0], 0, 3, 5), False)

    def test_walks_that_are_none(self):
        for walk in [[], [0], [0, 1, 2, 1], [0, 1, 2, 1, 0, 0], [0, 2, 2, 1, 0], [3, 1, 2, 1, 0], [0, 1, 2, 1, -4],
                     [-4, 1, 2, 1, 0], [0, 1, 2, 1, 10 ** 5000], [False, 1, 2, 1, 0]]:
            for wrong in range(6):
                self.assertIs(self.walk_says(walk, 1, 3, wrong), False)

    def test_marks(self):
        # Of the sightings (1, 2) and (3, 3) do not go together with place 0 at tick 2, nor does (2, 2).
        self.assertIs(self.marks_say([1, None, 2, None, None], 0, 2, 2), True)
        self.assertIs(self.marks_say([-1, None, 10 ** 5000, None, None], 0, 2, 0), True)
        self.assertIs(self.marks_say([1, 2, 2, None, None], 0, 2, 2), False)
        self.assertIs(self.marks_say([1, None, 2, 1, 2], 0, 2, 2), True)
        self.assertIs(self.marks_say([1, 3, 2, None, None], 0, 2, 1), True)
        self.assertIs(self.marks_say([1, 3, 2, None, None], 0, 2, 2), False)
        self.assertIs(self.marks_say([1, None, 2, None, None], 0, 2, 3), False)
        self.assertIs(self.marks_say([1, None, 1, None, None], 0, 2, 2), False)
        self.assertIs(self.marks_say([1, None, None, None, None], 0, 2, 2), False)
        self.assertIs(self.marks_say([None] * 5, 0, 2, 2), False)
        self.assertIs(self.marks_say([None] * 5, 0, 2, 5), False)
        self.assertIs(self.marks_say([True, None, 2, None, None], 0, 2, 2), False)

    def test_marks_of_another_length(self):
        for marks in [[], [1, None, 2, None], [1, None, 2, None, None, None], [None] * 1000]:
            self.assertIs(self.marks_say(marks, 0, 2, 0), False)

    def test_alike_ones_with_the_same_number(self):
        self.assertIs(Barred([1, 1, None]).shows(LINE, [(1, 1), (1, 1), (1, 3)], 1, 1, 0), False)
        self.assertIs(Barred([1, 2, None]).shows(LINE, [(1, 1), (1, 1), (1, 3)], 1, 1, 0), True)
        self.assertIs(Barred([1, 2, 1]).shows(LINE, [(1, 1), (1, 1), (1, 3)], 1, 1, 0), True)

    def test_all_walks_and_marks_of_a_little_land(self):
        land = (2, [], 1)
        walks = [list(row) for many in range(4) for row in itertools.product((-1, 0, 1, 2), repeat=many)]
        lists = [list(row) for many in range(4) for row in itertools.product((None, -1, 0, 1), repeat=many)]
        for many in range(4):
            for sightings in itertools.combinations_with_replacement(all_sightings(land), many):
                for (tick, place), wrong in itertools.product(all_sightings(land), range(many + 1)):
                    asked = (land, list(sightings), place, tick, wrong)
                    for walk in walks:
                        self.assertIs(There(walk).shows(*asked), is_there(*asked, walk))
                    for marks in lists:
                        self.assertIs(Barred(marks).shows(*asked), is_barred(*asked, marks))

    def test_by_the_fields_as_they_stand(self):
        answer = There([0, 1, 2, 1, 0])
        answer.walk[3] = 2
        self.assertIs(answer.shows(LINE, self.sightings, 1, 3, 2), False)
        answer.walk = [0, 1, 2, 1, 0]
        self.assertIs(answer.shows(LINE, self.sightings, 1, 3, 2), True)
        other = Barred([1, None, 2, None, None])
        other.marks[0] = None
        self.assertIs(other.shows(LINE, self.sightings, 0, 2, 2), False)
        other.marks = [5, None, 7, None, None]
        self.assertIs(other.shows(LINE, self.sightings, 0, 2, 2), True)


if __name__ == "__main__":
    unittest.main()
