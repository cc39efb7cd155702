import random

from tests.asking import Asking
from tests.tablemaking import drawn_tables, meant_tables
from tests.woven import Woven, drawn_deeds, drawn_weaving
from wholeglance.asking import next_step
from wholeglance.errors import NoStep
from wholeglance.manners import is_manner
from wholeglance.rooms import begun, may_step, stepped, walked
from wholeglance.stories import story

LOOK = ("look",)
PUT = ("put", 0, 1)


class TestSteps(Asking):
    def step(self, rows, reads, step):
        manner = ("tables", 1, 2, (tuple(rows),), ((("read", 0, (), 1), ("told", (0,))),))
        self.assertTrue(is_manner(manner))
        self.assertEqual(self.asked(next_step, manner, 0, PUT, (0,), reads), step)

    def test_a_read_leads_by_the_content_read(self):
        rows = (("read", 1, ((0, 1), (3, 2), (9, 3)), 4), ("write", 0, 5, 4), ("write", 1, 6, 4), ("end",), ("read", 0, (), 3))
        self.step(rows, (), ("read", ("box", 1)))
        self.step(rows, (0,), ("write", ("box", 0), 5))
        self.step(rows, (3,), ("write", ("box", 1), 6))
        self.step(rows, (9,), ("told", None))
        for content in (1, 2, 4, 5, 6, 7, 8):
            self.step(rows, (content,), ("read", ("box", 0)))
            self.step(rows, (content, 7), ("told", None))

    def test_a_write_leads_to_its_row_alone(self):
        rows = (("write", 0, 5, 2), ("end",), ("write", 1, 0, 0))
        self.step(rows, (), ("write", ("box", 0), 5))
        self.step(rows, (None,), ("write", ("box", 1), 0))
        self.step(rows, (None, None), ("write", ("box", 0), 5))
        self.step(rows, (None,) * 51, ("write", ("box", 1), 0))

    def test_rows_that_lead_to_themselves(self):
        rows = (("read", 0, ((1, 1),), 0), ("end",))
        self.step(rows, (0, 0, 2), ("read", ("box", 0)))
        self.step(rows, (0, 0, 1), ("told", None))

    def test_each_deed_begins_at_row_nought(self):
        manner = meant_tables(3, 1)
        jobs = (("deeds", (PUT, PUT, LOOK)), ("deeds", ()), ("deeds", ()))
        room = walked(manner, jobs, (0,) * 5)
        self.assertEqual(room, (((("box", 0), 1),), (((None, None, (1, 0, 0)), (), ()),) + (((), (), ()),) * 2))
        self.assertEqual(story(manner, jobs, (0,) * 5),
                         ((0, PUT, 0, 2, None), (0, PUT, 2, 4, None), (0, LOOK, 4, 5, (1, 0, 0))))

    def test_a_step_behind_the_last_deed_can_not_be(self):
        manner = meant_tables(3, 1)
        jobs = (("deeds", (PUT,)), ("deeds", ()), ("deeds", ()))
        for weaving, place in (((0, 0, 0), 2), ((1,), 0), ((0, 2), 1)):
            with self.assertRaises(NoStep) as taken:
                walked(manner, jobs, weaving)
            self.assertEqual(taken.exception.place, place)
            with self.assertRaises(NoStep) as taken:
                story(manner, jobs, weaving)
            self.assertEqual(taken.exception.place, place)


class TestByWords(Asking):
    def test_rooms_and_stories_of_drawn_tables(self):
        chance = random.Random(281)
        for number in range(150):
            manner = drawn_tables(chance, chance.randint(1, 5), chance.randint(1, 4), number % 2 == 0)
            self.assertTrue(is_manner(manner))
            jobs = drawn_deeds(manner, chance, 3)
            weaving = drawn_weaving(manner, jobs, chance, 60)
            woven = Woven(manner, jobs)
            room = begun(manner, jobs)
            for hand in weaving:
                self.assertEqual(may_step(manner, jobs, room), woven.hands())
                woven.step(hand)
                room = stepped(manner, jobs, room, hand)
                self.assertEqual(room, woven.room())
            self.assertEqual(self.asked(walked, manner, jobs, weaving), woven.room())
            self.assertEqual(self.asked(story, manner, jobs, weaving), woven.story())
