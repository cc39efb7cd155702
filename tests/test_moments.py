import random

from tests.asking import Asking
from tests.orderwords import fits_order
from tests.rightwords import right
from tests.samples import all_plain_manners
from tests.woven import Woven, drawn_deeds, drawn_jobs, drawn_weaving
from wholeglance.bounds import most_steps
from wholeglance.errors import NoStep
from wholeglance.manners import places_of
from wholeglance.moments import moments
from wholeglance.orderlooks import shows_order
from wholeglance.orders import ordered
from wholeglance.stories import stood, story

LOOK = ("look",)


def put(place, value):
    return ("put", place, value)


def deeds(*rows):
    return tuple(("deeds", row) for row in rows)


class TestMoments(Asking):
    def told(self, manner, jobs, weaving, numbers):
        self.assertEqual(self.asked(moments, manner, jobs, weaving), numbers)

    def test_no_step_at_all(self):
        self.told(("once", 2), deeds((LOOK,), (LOOK,)), (), ())

    def test_of_a_put_its_end(self):
        self.told(("once", 2), deeds((put(0, 5), put(0, 6)), (put(1, 5),)), (0, 1, 0), (1, 2, 3))
        self.told(("handed", 1, 0, 1), deeds((put(0, 0), put(0, 0))), (0,) * 6, (3, 6))

    def test_of_a_look_the_least_number_behind_which_it_stood(self):
        manner = ("once", 2)
        jobs = deeds((LOOK,), (put(1, 5), put(1, 0), put(1, 5), put(1, 6)))
        self.told(manner, jobs, (0, 0), (0,))
        self.told(manner, jobs, (1, 0, 0), (1, 1))
        self.told(manner, jobs, (0, 1, 0), (2, 2))
        self.told(manner, jobs, (0, 1, 1, 0), (0, 2, 3))
        self.told(manner, jobs, (0, 1, 1, 1, 0), (2, 2, 3, 4))
        self.told(manner, jobs, (0, 1, 1, 1, 1, 0), (5, 2, 3, 4, 5))
        self.told(manner, jobs, (1, 1, 0, 1, 0), (1, 2, 4, 4))

    def test_a_state_that_stood_ahead_of_its_begin_alone_counts_for_nothing(self):
        # What the look tells stood behind one step, but the look begins behind two.
        jobs = deeds((LOOK,), (put(1, 5),), (put(2, 6), put(2, 0), put(2, 6)))
        self.told(("once", 3), jobs, (2, 2, 0, 0, 1, 2, 0), (1, 2, None, 5, 6))

    def test_none_where_what_was_told_never_stood(self):
        jobs = deeds((LOOK,), (put(1, 5),), (put(2, 6),))
        self.told(("once", 3), jobs, (0, 0, 1, 2, 0), (None, 3, 4))
        self.told(("once", 3), jobs, (0, 0, 2, 1, 0), (3, 3, 4))

    def test_none_where_there_is_no_end(self):
        self.told(("once", 2), deeds((LOOK,), (LOOK,)), (0, 1, 1), (None, 1))
        self.told(("handed", 1, 0, 1), deeds((put(0, 5),)), (0, 0), (None,))

    def test_refused_as_walked(self):
        for weaving, place in (((0, 0, 0), 2), ((5,), 0), ((0, -1), 1)):
            with self.assertRaises(NoStep) as taken:
                moments(("once", 2), deeds((LOOK,), (LOOK,)), weaving)
            self.assertEqual(taken.exception.place, place)

    def test_by_words_in_drawn_weavings(self):
        chance = random.Random(71)
        for manner in all_plain_manners()[2::5]:
            jobs = drawn_jobs(manner, chance)
            weaving = drawn_weaving(manner, jobs, chance, 90)
            woven = Woven(manner, jobs)
            for hand in weaving:
                woven.step(hand)
            expected = []
            for _, deed, begin, end, told in woven.story():
                moment = end
                if deed == LOOK and end is not None:
                    at = [number for number in range(begin, end + 1) if woven.states[number] == told]
                    moment = at[0] if at else None
                expected.append(moment)
            self.told(manner, jobs, weaving, tuple(expected))


def by_moments(rows, numbers):
    """The rows with an end by their moments, puts ahead of the looks that see them."""
    ended = [number for number, row in enumerate(rows) if row[3] is not None]
    return tuple(sorted(ended, key=lambda number: (numbers[number], rows[number][1] == LOOK, rows[number][2])))


class TestRightManners(Asking):
    def test_each_look_tells_what_stood_and_an_order_comes(self):
        chance = random.Random(72)
        for manner in [manner for manner in all_plain_manners() if right(manner)]:
            jobs = drawn_deeds(manner, chance, 6)
            weaving = drawn_weaving(manner, jobs, chance, 150)
            rows = story(manner, jobs, weaving)
            numbers = moments(manner, jobs, weaving)
            states = stood(manner, jobs, weaving)
            for row, moment in zip(rows, numbers):
                self.assertEqual(moment is None, row[3] is None, (manner, jobs, weaving))
                if moment is not None and row[1] == LOOK:
                    self.assertTrue(row[2] <= moment <= row[3])
                    self.assertEqual(states[moment], row[4])
            order = by_moments(rows, numbers)
            self.assertTrue(fits_order(places_of(manner), rows, order))
            self.holds(shows_order, places_of(manner), rows, order)
            self.assertEqual(ordered(places_of(manner), rows)[0], "order")

    def test_each_deed_ends_within_the_told_number_of_its_own_steps(self):
        chance = random.Random(73)
        for manner in all_plain_manners()[::2]:
            jobs = drawn_deeds(manner, chance, 4)
            weaving = drawn_weaving(manner, jobs, chance, 200)
            for hand, deed, begin, end, _ in story(manner, jobs, weaving):
                most = most_steps(manner, deed[0])
                own = weaving[begin:end].count(hand)
                if most is not None:
                    self.assertTrue(own <= most if end is not None else own < most, (manner, jobs, weaving))
