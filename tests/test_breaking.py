import random

from tests.asking import Asking
from tests.bookwords import replayed, tells_wrong
from tests.rightwords import right
from tests.samples import all_plain_manners
from tests.woven import drawn_deeds, drawn_jobs, drawn_weaving
from wholeglance.booklooks import shows_break
from wholeglance.books import book
from wholeglance.breaking import breaking
from wholeglance.jobs import is_jobs

LOOK = ("look",)
RIGHT = [manner for manner in all_plain_manners() if right(manner)]
WRONG = [manner for manner in all_plain_manners() if not right(manner)]


class TestBreaking(Asking):
    def test_none_of_a_right_one(self):
        for manner in RIGHT:
            self.assertIsNone(self.asked(breaking, manner), manner)

    def test_of_each_other_one_jobs_and_a_weaving_that_breaks(self):
        for manner in WRONG:
            told = self.asked(breaking, manner)
            self.assertIsInstance(told, tuple)
            self.assertEqual(len(told), 2)
            jobs, weaving = told
            self.assertTrue(is_jobs(manner, jobs), manner)
            self.assertEqual({job[0] for job in jobs}, {"deeds"})
            self.assertTrue(shows_break(manner, jobs, weaving), manner)

    def test_told_weavings_walked_by_words_tell_wrong(self):
        for manner in WRONG[::2]:
            jobs, weaving = breaking(manner)
            woven = replayed(manner, jobs, weaving)
            self.assertTrue(tells_wrong(woven, weaving[-1]), manner)


class TestRightManners(Asking):
    def test_no_step_of_drawn_weavings_tells_wrong(self):
        chance = random.Random(211)
        for manner in RIGHT:
            jobs = drawn_jobs(manner, chance) if chance.random() < 0.4 else drawn_deeds(manner, chance, 5)
            weaving = drawn_weaving(manner, jobs, chance, 80)
            woven = replayed(manner, jobs, ())
            for hand in weaving:
                woven.step(hand)
                self.assertFalse(tells_wrong(woven, hand), (manner, jobs, weaving))
            self.fails(shows_break, manner, jobs, weaving)

    def test_small_books_hold(self):
        for manner in RIGHT:
            if manner[1] == 2 and manner[-1] <= 3:
                place = 0 if manner[0] == "shared" else 1
                jobs = (("deeds", (LOOK,)), ("deeds", (("put", place, 1), ("put", place, 2))))
                self.assertIn(book(manner, jobs, 600)[0], ("holds", "open"), manner)
