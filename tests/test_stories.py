import random

from tests.asking import Asking
from tests.samples import all_plain_manners, some_manners, tables
from tests.woven import Woven, drawn_jobs, drawn_weaving
from wholeglance.errors import NoStep
from wholeglance.stories import stood, story

LOOK = ("look",)
ONCE = ("once", 2)
JOBS = (("deeds", (LOOK, ("put", 0, 6))), ("deeds", (("put", 1, 5), LOOK)))


class TestStory(Asking):
    def told(self, weaving, rows):
        self.assertEqual(self.asked(story, ONCE, JOBS, weaving), rows)

    def test_no_step_at_all(self):
        self.told((), ())
        for manner in some_manners(3):
            self.assertEqual(story(manner, (("deeds", ()),) * 3, ()), ())

    def test_begins_ends_and_what_was_told(self):
        self.told((0, 1, 0, 0, 1, 1), (
            (0, LOOK, 0, 3, (0, 5)), (1, ("put", 1, 5), 1, 2, None), (0, ("put", 0, 6), 3, 4, None),
            (1, LOOK, 4, 6, (6, 5)),
        ))

    def test_one_hand_behind_the_other(self):
        self.told((1, 0, 0), ((1, ("put", 1, 5), 0, 1, None), (0, LOOK, 1, 3, (0, 5))))

    def test_under_way(self):
        self.told((0,), ((0, LOOK, 0, None, None),))
        self.told((1, 1, 0), ((1, ("put", 1, 5), 0, 1, None), (1, LOOK, 1, None, None), (0, LOOK, 2, None, None)))

    def test_rows_come_by_begins_not_by_hands_or_ends(self):
        self.told((1, 1, 0, 0, 1), ((1, ("put", 1, 5), 0, 1, None), (1, LOOK, 1, 5, (0, 5)), (0, LOOK, 2, 4, (0, 5))))

    def test_a_put_of_many_steps(self):
        manner = ("handed", 1, 0, 1)
        jobs = (("deeds", (("put", 0, 6), LOOK)),)
        self.assertEqual(story(manner, jobs, (0, 0)), ((0, ("put", 0, 6), 0, None, None),))
        self.assertEqual(story(manner, jobs, (0, 0, 0)), ((0, ("put", 0, 6), 0, 3, None),))
        self.assertEqual(story(manner, jobs, (0,) * 5), ((0, ("put", 0, 6), 0, 3, None), (0, LOOK, 3, 5, (6,))))

    def test_of_tables(self):
        manner = tables(2, 1)
        jobs = (("deeds", (("put", 0, 1), LOOK)), ("deeds", (LOOK,)))
        self.assertEqual(self.asked(story, manner, jobs, (1, 0, 0)),
                         ((1, LOOK, 0, 1, (0, 0)), (0, ("put", 0, 1), 1, 2, None), (0, LOOK, 2, 3, (1, 1))))

    def test_of_other_jobs(self):
        jobs = (("name", 4), ("name", 2))
        self.assertEqual(story(ONCE, jobs, (0, 1, 0, 0, 0)), (
            (0, ("put", 0, (4, 1)), 0, 1, None), (1, ("put", 1, (2, 1)), 1, 2, None),
            (0, LOOK, 2, 4, ((4, 1), (2, 1))), (0, ("put", 0, (4, 3)), 4, 5, None),
        ))


class TestStood(Asking):
    def test_states_behind_each_number_of_steps(self):
        self.assertEqual(self.asked(stood, ONCE, JOBS, ()), ((0, 0),))
        self.assertEqual(self.asked(stood, ONCE, JOBS, (0, 1, 0, 0, 1)),
                         ((0, 0), (0, 0), (0, 5), (0, 5), (6, 5), (6, 5)))

    def test_a_put_of_many_steps_stands_behind_its_last(self):
        self.assertEqual(stood(("handed", 1, 0, 1), (("deeds", (("put", 0, 6),)),), (0, 0, 0)), ((0,), (0,), (0,), (6,)))

    def test_several_writers(self):
        manner = ("shared", 2, 1, 0, 0, 1)
        jobs = (("deeds", (("put", 0, 5),)), ("deeds", (("put", 0, 7),)))
        self.assertEqual(stood(manner, jobs, (0, 0, 0, 1, 1, 1, 1, 0)), ((0,),) * 7 + ((7,), (5,)))


class TestBoth(Asking):
    def test_refused_as_walked(self):
        for function in (story, stood):
            for weaving, place in (((0, 0, 0, 0), 3), ((2,), 0), ((1, -1), 1), ((1, 1, 1, 1, 0), 3)):
                with self.assertRaises(NoStep) as taken:
                    function(ONCE, JOBS, weaving)
                self.assertEqual(taken.exception.place, place)

    def test_drawn_weavings_by_words(self):
        chance = random.Random(51)
        for manner in all_plain_manners()[1::3] + [tables(2, 1), tables(3, 2)]:
            jobs = drawn_jobs(manner, chance)
            weaving = drawn_weaving(manner, jobs, chance, 90)
            woven = Woven(manner, jobs)
            for hand in weaving:
                woven.step(hand)
            self.assertEqual(self.asked(story, manner, jobs, weaving), woven.story())
            self.assertIsInstance(story(manner, jobs, weaving), tuple)
            if manner[0] != "tables":
                self.assertEqual(self.asked(stood, manner, jobs, weaving), tuple(woven.states))
