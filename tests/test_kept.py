"""Point 4: a walk that meets as many as can be, and marks by which no walk meets more."""

import itertools
import unittest

from sightings.answers import Answer, Kept
from sightings.seeking import kept
from tests.helper import GREAT, LEAST, LINE, all_sightings, all_walks, is_kept, met, small_lands, some_questions


class Told(unittest.TestCase):
    def holds(self, land, sightings):
        answer = kept(land, sightings)
        self.assertIs(type(answer), Kept)
        self.assertIs(type(answer.walk), list)
        self.assertIs(type(answer.marks), list)
        self.assertTrue({type(number) for number in answer.walk + answer.marks} <= {int})
        self.assertTrue(is_kept(land, sightings, answer.walk, answer.marks))
        self.assertIs(answer.shows(land, sightings), True)
        return answer

    def test_ordinary(self):
        sightings = [(0, 0), (2, 2), (4, 0), (1, 2), (3, 3)]
        answer = self.holds(LINE, sightings)
        self.assertEqual(met(answer.walk, sightings), 3)
        self.assertEqual(len(set(answer.marks)), 3)

    def test_no_sightings(self):
        for land in [LEAST, LINE, GREAT]:
            self.assertEqual(self.holds(land, []).marks, [])

    def test_eight_alike_ones(self):
        for place in (0, 6):
            answer = self.holds(GREAT, [(10, place)] * 8)
            self.assertEqual(len(set(answer.marks)), 8)
            self.assertEqual(answer.walk[10], place)

    def test_none_go_together(self):
        sightings = [(5, place) for place in range(7)]
        self.assertEqual(len(set(self.holds(GREAT, sightings).marks)), 1)

    def test_a_place_that_cannot_be_reached(self):
        self.assertEqual(len(set(self.holds(GREAT, [(0, 0), (10, 6)]).marks)), 1)

    def test_ticks_in_falling_order(self):
        sightings = [(4, 2), (3, 1), (2, 0), (1, 0), (0, 0)]
        self.assertEqual(self.holds(LINE, sightings).walk, [0, 0, 0, 1, 2])

    def test_one_place(self):
        self.holds(LEAST, [(0, 0), (1, 0), (0, 0), (1, 0)])

    def test_no_walk_of_small_lands_meets_more(self):
        for land in small_lands():
            walks = all_walks(land)
            for many in range(4):
                for sightings in itertools.combinations_with_replacement(all_sightings(land), many):
                    answer = self.holds(land, list(sightings))
                    most = max(met(walk, sightings) for walk in walks)
                    self.assertIn(answer.walk, walks)
                    self.assertEqual(met(answer.walk, sightings), most)

    def test_no_walk_meets_more_with_many_sightings(self):
        for land, sightings in some_questions(150, 4, 4, 8):
            answer = self.holds(land, sightings)
            self.assertEqual(met(answer.walk, sightings), max(met(walk, sightings) for walk in all_walks(land)))

    def test_great_lands(self):
        for land, sightings in some_questions(300, 7, 10, 8):
            self.holds(land, sightings)


class Shows(unittest.TestCase):
    sightings = [(0, 0), (2, 2), (4, 0), (1, 2), (3, 3)]
    walk = [0, 1, 2, 1, 0]
    marks = [1, 2, 3, 1, 1]

    def says(self, walk, marks, sightings=None):
        return Kept(walk, marks).shows(LINE, self.sightings if sightings is None else sightings)

    def test_classes(self):
        self.assertEqual(Kept.__bases__, (Answer,))
        self.assertEqual(Answer.__bases__, (object,))
        self.assertIn("shows", vars(Kept))

    def test_true_of_marks_of_any_sign_and_size(self):
        self.assertIs(self.says(self.walk, self.marks), True)
        self.assertIs(self.says(self.walk, [-1, 10 ** 5000, 0, -1, -1]), True)
        self.assertIs(self.says(self.walk, [1, 2, 3, 1, 2]), True)
        self.assertIs(self.says([3, 3, 3, 3, 3], [], []), True)

    def test_false_of_walks_that_are_none(self):
        for walk in [[], [0], [0, 1, 2, 1], [0, 1, 2, 1, 0, 0], [0, 2, 2, 1, 0], [0, 1, 2, 2, 0], [0, 1, 2, 3, 0],
                     [0, 1, 2, -3, 0], [0, -1, 2, 1, 0], [0, 4, 2, 1, 0], [0, 10 ** 5000, 2, 1, 0], [-10 ** 5000] * 5]:
            self.assertIs(self.says(walk, self.marks), False)
            self.assertIs(self.says(walk, [], []), False)

    def test_false_of_walks_that_meet_fewer(self):
        for walk in [[0, 1, 2, 1, 1], [1, 1, 2, 1, 0], [3, 3, 3, 3, 3], [0, 0, 0, 0, 0]]:
            self.assertIs(self.says(walk, self.marks), False)

    def test_false_of_marks_of_another_length(self):
        for marks in [[], self.marks[:4], self.marks + [1], self.marks * 300]:
            self.assertIs(self.says(self.walk, marks), False)
        self.assertIs(self.says(self.walk, [1], []), False)

    def test_false_of_too_many_unlike_marks(self):
        for marks in [[1, 2, 3, 4, 1], [1, 2, 3, 1, -1], [1, 2, 3, 4, 5]]:
            self.assertIs(self.says(self.walk, marks), False)

    def test_false_if_two_with_the_same_mark_go_together(self):
        for marks in [[1, 1, 2, 3, 3], [1, 2, 2, 3, 3], [1, 2, 1, 3, 3], [1, 2, 3, 3, 1], [0, 0, 0, 0, 0]]:
            self.assertIs(self.says(self.walk, marks), False)
        # Fewer marks than there must be, just as many as the walk meets.
        self.assertIs(self.says([0, 1, 1, 1, 1], [1, 1, 1, 1, 1]), False)
        self.assertIs(self.says([0, 0, 0, 0, 0], [1, 2, 2, 1, 1]), False)

    def test_false_of_alike_sightings_with_the_same_mark(self):
        alike = [(1, 1), (1, 1)]
        self.assertIs(self.says([1, 1, 1, 1, 1], [1, 1], alike), False)
        self.assertIs(self.says([0, 0, 0, 0, 0], [1, 1], alike), False)
        self.assertIs(self.says([1, 1, 1, 1, 1], [1, 2], alike), True)

    def test_none_is_no_mark_here(self):
        self.assertIs(self.says([0, 1, 1, 1, 1], [1, None, None, 1, 1]), False)

    def test_true_and_false_are_no_numbers(self):
        self.assertIs(self.says(self.walk, [True, 2, 3, True, True]), False)
        self.assertIs(self.says([False, True, 2, True, False], self.marks), False)

    def test_all_walks_and_marks_of_a_little_land(self):
        land = (2, [(0, 1)], 1)
        lists = [list(row) for many in range(4) for row in itertools.product((-1, 0, 1, 2), repeat=many)]
        for many in range(3):
            for sightings in itertools.product(all_sightings(land), repeat=many):
                for walk, marks in itertools.product(lists, lists):
                    right = is_kept(land, sightings, walk, marks)
                    self.assertIs(Kept(walk, marks).shows(land, list(sightings)), right)

    def test_by_the_fields_as_they_stand(self):
        answer = Kept(self.walk, self.marks)
        answer.walk[4] = 2
        self.assertIs(answer.shows(LINE, self.sightings), False)
        answer.walk = [0, 1, 2, 1, 0]
        self.assertIs(answer.shows(LINE, self.sightings), True)
        answer.marks.append(0)
        self.assertIs(answer.shows(LINE, self.sightings), False)
        answer.marks = [3, 2, 1, 3, 3]
        self.assertIs(answer.shows(LINE, self.sightings), True)


if __name__ == "__main__":
    unittest.main()
