import random
from unittest import mock

from tests.asking import Asking
from tests.orderwords import all_orders, closure, drawn_story, fits_order
from tests.samples import all_plain_manners
from tests.woven import drawn_deeds, drawn_weaving
from wholeglance.manners import places_of
from wholeglance.orderlooks import shows_none, shows_order
from wholeglance.orderrooms import leads
from wholeglance.orders import ordered
from wholeglance.stories import story
from wholeglance.stories_told import is_story

LOOK = ("look",)
WRONG = [("once", 4), ("once", 5), ("handed", 4, 2, 1), ("shared", 4, 2, 0, 0, 1)]


def look(hand, begin, end, *told):
    return (hand, LOOK, begin, end, told or None)


def put(hand, place, value, begin, end):
    return (hand, ("put", place, value), begin, end, None)


class Ordering(Asking):
    def has_order(self, places, rows):
        told = self.asked(ordered, places, rows)
        self.assertIsInstance(told, tuple)
        self.assertEqual(told[0], "order", rows)
        self.assertEqual(len(told), 2)
        self.assertEqual(len(set(told[1])), len(told[1]))
        self.assertTrue(fits_order(places, rows, told[1]), (rows, told))
        self.holds(shows_order, places, rows, told[1])
        self.fails(shows_none, places, rows, told[1])
        return told[1]

    def has_none(self, places, rows):
        told = self.asked(ordered, places, rows)
        self.assertEqual(told[0], "none", rows)
        self.assertEqual(len(told), 2)
        self.assertIsInstance(told[1], tuple)
        expected, finished = closure(rows, [((), (0,) * places)])
        self.assertFalse(finished)
        self.assertEqual(sorted(map(repr, told[1])), sorted(map(repr, expected)))
        self.holds(shows_none, places, rows, told[1])
        self.fails(shows_order, places, rows, told[1])
        return told[1]


class TestOrdered(Ordering):
    def test_no_row(self):
        self.assertEqual(self.asked(ordered, 2, ()), ("order", ()))

    def test_rows_without_an_end_alone(self):
        for rows in ((look(0, 0, None),), (put(0, 0, 5, 0, None),), (look(0, 0, None), put(1, 0, 5, 0, None))):
            self.has_order(1, rows)

    def test_one_row(self):
        self.assertEqual(self.has_order(1, (look(0, 0, 1, 0),)), (0,))
        self.assertEqual(self.has_order(1, (put(0, 0, 5, 0, 1),)), (0,))
        self.assertEqual(self.has_none(1, (look(0, 0, 1, 5),)), (((), (0,)),))

    def test_a_row_that_is_ahead_stays_ahead(self):
        self.assertEqual(self.has_order(1, (put(0, 0, 5, 0, 1), look(1, 1, 2, 5))), (0, 1))
        self.assertEqual(self.has_none(1, (put(0, 0, 5, 0, 1), look(1, 1, 2, 0))), (((), (0,)), ((0,), (5,))))
        self.assertEqual(self.has_order(1, (put(0, 0, 5, 0, 2), look(1, 1, 2, 0))), (1, 0))
        self.assertEqual(self.has_order(1, (put(0, 0, 5, 0, 2), look(1, 1, 2, 5))), (0, 1))

    def test_looks_that_see_two_puts_in_unlike_orders(self):
        puts = (put(0, 0, 1, 0, 9), put(1, 1, 1, 0, 9))
        self.has_order(2, puts + (look(2, 0, 9, 1, 0),))
        self.has_order(2, puts + (look(2, 0, 9, 0, 1),))
        self.has_none(2, puts + (look(2, 0, 9, 1, 0), look(3, 0, 9, 0, 1)))

    def test_a_put_without_an_end_stands_in_it_where_it_was_seen(self):
        seen = (put(0, 0, 5, 0, None), look(1, 1, 2, 5))
        self.assertEqual(self.has_order(1, seen), (0, 1))
        both = (put(0, 0, 5, 0, None), look(1, 1, 2, 0), look(1, 3, 4, 5))
        self.assertEqual(self.has_order(1, both), (1, 0, 2))
        self.has_order(1, (put(0, 0, 5, 0, None), look(1, 1, 2, 0)))
        self.has_none(1, (look(1, 1, 2, 5), put(0, 0, 5, 2, None)))
        self.has_none(1, (put(0, 0, 5, 0, None), look(1, 1, 2, 5), look(1, 2, 3, 0)))

    def test_a_look_without_an_end_tells_nothing(self):
        self.assertEqual(self.has_order(1, (look(0, 0, None), look(1, 0, 1, 0))), (1,))

    def test_states_that_come_back(self):
        rows = (put(0, 0, 5, 0, 9), put(1, 0, 5, 0, 9), put(2, 0, 6, 0, 9), look(3, 0, 3, 5), look(3, 3, 6, 6),
                look(3, 6, 9, 5))
        self.has_order(1, rows)
        self.has_none(1, rows[1:])

    def test_many_rows_alike(self):
        rows = tuple(put(hand, 0, 5, 0, 50) for hand in range(10))
        self.has_order(1, rows)
        more = tuple(look(hand, 50, 60, 5) for hand in range(4))
        self.has_order(1, rows + more)
        self.has_none(1, rows + more[:3] + (look(3, 50, 60, 0),))
        self.has_none(1, tuple(put(hand, 0, 5, 0, None) for hand in range(9)) + (look(9, 0, 1, 6),))

    def test_many_unlike_rows_at_once(self):
        rows = tuple(put(hand, hand % 3, hand, 0, 50) for hand in range(9))
        self.has_order(3, rows + (look(9, 0, 20, 0, 7, 5),))
        told = ordered(3, rows + (look(9, 0, 20, 99, 0, 0),))
        self.assertEqual(told[0], "none")
        self.holds(shows_none, 3, rows + (look(9, 0, 20, 99, 0, 0),), told[1])

    def test_each_pair_is_gone_on_from_but_once(self):
        gone_on_from = []

        def recorded(plan, done, state):
            gone_on_from.append((done, state))
            return leads(plan, done, state)
        rows = tuple(put(hand, hand % 2, 5, 0, 50) for hand in range(6)) + (look(9, 0, 20, 9, 9),)
        with mock.patch("wholeglance.orders.leads", recorded):
            told = ordered(2, rows)
        self.assertEqual(len(gone_on_from), len(set(gone_on_from)))
        self.assertEqual(len(gone_on_from), len(told[1]))

    def test_all_orders_of_small_drawn_stories(self):
        chance = random.Random(81)
        counts = {"order": 0, "none": 0}
        for _ in range(700):
            places = chance.randint(1, 3)
            rows = drawn_story(places, chance, 5, chance.random() < 0.3)
            self.assertTrue(is_story(places, rows))
            if all_orders(places, rows):
                counts["order"] += 1
                self.has_order(places, rows)
            else:
                counts["none"] += 1
                self.has_none(places, rows)
        self.assertGreater(min(counts.values()), 100)

    def test_great_drawn_stories(self):
        chance = random.Random(82)
        for _ in range(150):
            places = chance.randint(1, 5)
            rows = drawn_story(places, chance, 14, True)
            self.has_order(places, rows)
        for _ in range(60):
            places = chance.randint(1, 5)
            rows = drawn_story(places, chance, 14, False)
            expected, finished = closure(rows, [((), (0,) * places)])
            if finished:
                self.has_order(places, rows)
            else:
                self.assertEqual(sorted(self.has_none(places, rows), key=repr), sorted(expected, key=repr))

    def test_stories_told_whatever_their_size(self):
        chance = random.Random(83)
        told = {"order": 0, "none": 0}
        for manner in all_plain_manners()[3::4] + WRONG * 8:
            jobs = drawn_deeds(manner, chance, 10)
            rows = story(manner, jobs, drawn_weaving(manner, jobs, chance, 250))
            word = ordered(places_of(manner), rows)[0]
            told[word] += 1
            if word == "order":
                self.has_order(places_of(manner), rows)
            else:
                self.has_none(places_of(manner), rows)
        self.assertGreater(min(told.values()), 2)
