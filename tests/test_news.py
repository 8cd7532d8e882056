"""Point 7: news of several hands, struck and late."""

import itertools
import unittest

from sightings.errors import BadHand, BadLand, BadOwn, BadPlace, BadTick, TooMany, Unlike
from sightings.news import News
from sightings.seeking import kept
from tests.helper import GREAT, LEAST, LINE, beyond, no_numbers


def full():
    """News of eight, of which two are struck, and one more struck that was not heard."""
    news = News(GREAT)
    for own in range(8):
        news.hear(own % 4, own, own, 0)
    news.strike(0, 0)
    news.strike(3, 7)
    news.strike(3, 9)
    return news


class Heard(unittest.TestCase):
    def test_ordinary(self):
        news = News(LINE)
        self.assertEqual(news.sightings(), [])
        self.assertIs(news.hear(1, 5, 0, 0), True)
        self.assertIs(news.hear(1, 2, 4, 3), True)
        self.assertIs(news.hear(0, 9, 2, 1), True)
        self.assertEqual(news.sightings(), [(2, 1), (4, 3), (0, 0)])
        self.assertTrue(kept(LINE, news.sightings()).shows(LINE, news.sightings()))

    def test_edges(self):
        news = News(LEAST)
        self.assertIs(news.hear(3, 9, 1, 0), True)
        self.assertIs(news.hear(0, 0, 0, 0), True)
        self.assertEqual(news.sightings(), [(0, 0), (1, 0)])

    def test_ways_do_not_count(self):
        news = News(LINE)
        news.hear(0, 0, 0, 0)
        self.assertIs(news.hear(0, 1, 1, 3), True)

    def test_heard_again(self):
        news = News(LINE)
        news.hear(1, 5, 0, 0)
        self.assertIs(news.hear(1, 5, 0, 0), False)
        self.assertEqual(news.sightings(), [(0, 0)])

    def test_alike_sightings_of_unlike_hands_and_numbers(self):
        news = News(LINE)
        for hand, own in [(1, 5), (1, 6), (2, 5)]:
            self.assertIs(news.hear(hand, own, 0, 0), True)
        self.assertEqual(news.sightings(), [(0, 0)] * 3)

    def test_another_of_the_same_hand_and_number(self):
        news = News(LINE)
        news.hear(1, 5, 0, 0)
        for tick, place in [(1, 0), (0, 1), (1, 1)]:
            with self.assertRaises(Unlike):
                news.hear(1, 5, tick, place)
        self.assertEqual(news.sightings(), [(0, 0)])
        news.strike(1, 5)
        with self.assertRaises(Unlike):
            news.hear(1, 5, 1, 1)
        self.assertIs(news.hear(1, 5, 0, 0), False)
        self.assertEqual(news.sightings(), [])


class Struck(unittest.TestCase):
    def test_after_it_was_heard(self):
        news = News(LINE)
        news.hear(1, 5, 0, 0)
        news.hear(2, 5, 1, 1)
        self.assertIs(news.strike(1, 5), True)
        self.assertIs(news.strike(1, 5), False)
        self.assertEqual(news.sightings(), [(1, 1)])

    def test_before_it_is_heard(self):
        news = News(LINE)
        self.assertIs(news.strike(1, 5), True)
        self.assertIs(news.strike(1, 5), False)
        self.assertIs(news.hear(1, 5, 0, 0), True)
        self.assertIs(news.hear(1, 5, 0, 0), False)
        self.assertIs(news.strike(1, 5), False)
        self.assertEqual(news.sightings(), [])
        with self.assertRaises(Unlike):
            news.hear(1, 5, 0, 1)

    def test_the_same_in_whatever_turn(self):
        turns = [("hear", 2, 1, 0, 0), ("hear", 0, 9, 3, 1), ("strike", 2, 1), ("hear", 2, 0, 1, 2), ("strike", 3, 3)]
        for order in itertools.permutations(turns):
            news = News(LINE)
            for act, *told in order:
                self.assertIs(getattr(news, act)(*told), True)
            self.assertEqual(news.sightings(), [(3, 1), (1, 2)])


class Many(unittest.TestCase):
    def test_a_ninth(self):
        news = News(GREAT)
        for own in range(8):
            self.assertIs(news.hear(own % 4, own, own, 0), True)
        before = news.sightings()
        with self.assertRaises(TooMany):
            news.hear(0, 9, 0, 0)
        self.assertIs(news.hear(1, 1, 1, 0), False)
        self.assertEqual(news.sightings(), before)
        self.assertEqual(len(before), 8)

    def test_struck_ones_that_were_heard_count(self):
        news = full()
        with self.assertRaises(TooMany):
            news.hear(0, 9, 0, 0)
        with self.assertRaises(TooMany):
            news.hear(3, 9, 0, 0)
        self.assertEqual(len(news.sightings()), 6)

    def test_struck_ones_that_were_not_heard_do_not_count(self):
        news = News(GREAT)
        for hand, own in itertools.product(range(4), range(10)):
            self.assertIs(news.strike(hand, own), True)
        for own in range(8):
            self.assertIs(news.hear(0, own, 0, 0), True)
        with self.assertRaises(TooMany):
            news.hear(0, 8, 0, 0)
        self.assertEqual(news.sightings(), [])

    def test_unlike_comes_before_too_many(self):
        news = full()
        for hand, own in [(1, 1), (0, 0)]:
            with self.assertRaises(Unlike):
                news.hear(hand, own, 9, 0)


class Refused(unittest.TestCase):
    def refuses(self, error, news, act, *told):
        with self.assertRaises(error) as caught:
            getattr(news, act)(*told)
        self.assertIs(type(caught.exception), error)

    def test_lands(self):
        for land in [*no_numbers(), (0, [], 1), (8, [], 1), (2, [(1, 0)], 1), (2, (), 1), (2, [], 11), (True, [], 1)]:
            with self.assertRaises(BadLand):
                News(land)

    def test_one_at_a_time_and_two_at_once(self):
        errors = [BadHand, BadOwn, BadTick, BadPlace]
        bad = [no_numbers() + beyond(*limits) for limits in [(0, 3), (0, 9), (0, 10), (0, 6)]]
        news = full()
        before = news.sightings()
        # The first is new, and too many; the second is heard already; the third is unlike.
        for good in [(0, 9, 0, 0), (1, 1, 1, 0), (1, 1, 2, 0)]:
            for first, second in itertools.product(range(4), repeat=2):
                for thing, other in zip(bad[first], reversed(bad[second])):
                    told = list(good)
                    told[first] = thing
                    told[second] = other
                    self.refuses(errors[min(first, second)], news, "hear", *told)
        self.assertEqual(news.sightings(), before)

    def test_striking(self):
        news = full()
        before = news.sightings()
        for thing in no_numbers() + beyond(0, 3):
            self.refuses(BadHand, news, "strike", thing, 0)
            self.refuses(BadHand, news, "strike", thing, thing)
        for thing in no_numbers() + beyond(0, 9):
            self.refuses(BadOwn, news, "strike", 0, thing)
        self.assertEqual(news.sightings(), before)

    def test_nothing_is_changed_then(self):
        news = News(LINE)
        for told in [(4, 0, 0, 0), (0, 10, 0, 0), (0, 0, 5, 0), (0, 0, 0, 4)] * 3:
            with self.assertRaises(ValueError):
                news.hear(*told)
        for own in range(8):
            self.assertIs(news.hear(0, own, 0, 0), True)
        with self.assertRaises(TooMany):
            news.hear(1, 0, 0, 0)
        with self.assertRaises(BadOwn):
            news.strike(0, True)
        self.assertIs(news.strike(0, 1), True)
        self.assertIs(news.strike(1, 0), True)


class Ties(unittest.TestCase):
    def test_the_land_is_not_kept(self):
        ways = [(0, 1)]
        news = News((2, ways, 1))
        ways.append("no way")
        self.assertIs(news.hear(0, 0, 1, 1), True)
        self.assertEqual(ways, [(0, 1), "no way"])

    def test_what_is_told_is_new(self):
        news = full()
        first = news.sightings()
        second = list(first)
        first.clear()
        self.assertEqual(news.sightings(), second)

    def test_news_stand_by_themselves(self):
        one, other = News(LINE), News(LINE)
        one.hear(0, 0, 0, 0)
        one.strike(1, 1)
        self.assertEqual(other.sightings(), [])
        self.assertIs(other.strike(1, 1), True)

    def test_methods_stand_in_the_class(self):
        self.assertTrue({"__init__", "hear", "strike", "sightings"} <= set(vars(News)))


if __name__ == "__main__":
    unittest.main()
