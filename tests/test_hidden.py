import random

from tests.asking import Asking
from tests.bookwords import replayed
from tests.orderwords import closure
from tests.samples import tables
from tests.tablemaking import always_ends, drawn_tables, meant_tables
from wholeglance.errors import GlanceError, NoEnd
from wholeglance.hidden import hidden
from wholeglance.jobs import is_jobs
from wholeglance.manners import is_manner
from wholeglance.orderlooks import shows_none
from wholeglance.orders import ordered
from wholeglance.stories import story
from wholeglance.stories_told import is_story

LOOK = ("look",)
SIZES = ((3, 1), (4, 1), (4, 2), (5, 1), (5, 2), (5, 3))
ENDLESS = ((("read", 0, (), 0),), (("read", 0, (), 1), ("write", 0, 1, 0)), (("write", 0, 1, 0),))


def counting_look(tail):
    """Counts box 0 up to 9 and so box 1 up to 8, three steps a count: 293 steps from noughts on, and a tail of some."""
    rows = [("read", 0, tuple((content, 1 + content) for content in range(9)), 11)]
    rows += [("write", 0, content + 1, 10) for content in range(9)] + [("read", 0, (), 0)]
    rows += [("read", 1, tuple((content, 12 + content) for content in range(8)), 23)]
    rows += [("write", 1, content + 1, 20) for content in range(8)]
    rows += [("read", 1, (), 21), ("read", 1, (), 22), ("write", 0, 0, 0)]
    rows += [("read", 1, (), 24 + place) for place in range(tail)]
    return tuple(rows) + (("told", (0, 1, 0, 1)),)


class Hiding(Asking):
    def refused(self, manner):
        """The hand with which hidden is refused, None where it isn't."""
        hands = []
        for _ in range(2):
            try:
                hidden(manner)
                hands.append(None)
            except NoEnd as end:
                self.assertIsInstance(end, GlanceError)
                hands.append(end.hand)
        self.assertEqual(hands[0], hands[1])
        return hands[0]

    def shown(self, manner):
        told = self.asked(hidden, manner)
        self.assertIsInstance(told, tuple)
        jobs, weaving = told
        self.assertTrue(is_jobs(manner, jobs), jobs)
        for job in jobs:
            self.assertEqual(job[0], "deeds")
            self.assertLessEqual(len(job[1]), 1)
        self.assertIsInstance(weaving, tuple)
        rows = story(manner, jobs, weaving)
        self.assertTrue(is_story(manner[1], rows))
        self.assertEqual(rows, replayed(manner, jobs, weaving).story())
        rooms, has_order = closure(rows, [((), (0,) * manner[1])])
        self.assertFalse(has_order, (manner, rows))
        kind, found = ordered(manner[1], rows)
        self.assertEqual(kind, "none")
        self.assertTrue(shows_none(manner[1], rows, found))
        self.assertTrue(shows_none(manner[1], rows, rooms))


class TestHidden(Hiding):
    def test_tables_that_are_meant(self):
        for hands, boxes in ((3, 1), (4, 2), (5, 2)):
            manner = meant_tables(hands, boxes)
            self.assertTrue(is_manner(manner))
            self.shown(manner)

    def test_meant_tables_tell_right_where_nobody_is_between(self):
        manner = meant_tables(4, 2)
        jobs = tuple(("deeds", (("put", hand, 1),)) for hand in range(3)) + (("deeds", (LOOK,)),)
        woven = replayed(manner, jobs, (2, 2, 0, 0, 3, 3))
        self.assertEqual(woven.told[3], ((1, 0, 1, 0),))

    def test_tables_of_the_same_rows(self):
        for hands, boxes in SIZES:
            self.shown(tables(hands, boxes))

    def test_puts_that_write_nothing(self):
        for hands, boxes in SIZES:
            puts = ((("read", 0, (), 1), ("end",)),) * hands
            for number in (0, 1):
                looks = ((("read", 0, (), 1), ("told", (number,) * hands)),) * hands
                self.shown(("tables", hands, boxes, puts, looks))

    def test_looks_that_write(self):
        for hands, boxes in SIZES:
            for number in (0, 1):
                looks = ((("write", boxes - 1, 5, 1), ("read", boxes - 1, (), 2), ("told", (number,) * hands)),) * hands
                self.shown(tables(hands, boxes)[:4] + (looks,))

    def test_puts_that_write_every_box(self):
        for hands, boxes in SIZES:
            rows = tuple(("write", box, 7, box + 1) for box in range(boxes)) + (("end",),)
            for number in (0, 1):
                looks = ((("read", 0, (), 1), ("told", (number,) * hands)),) * hands
                self.shown(("tables", hands, boxes, (rows,) * hands, looks))

    def test_drawn_tables_whose_deeds_end(self):
        chance = random.Random(241)
        for _ in range(60):
            for hands, boxes in SIZES:
                self.shown(drawn_tables(chance, hands, boxes, True, chance.choice((4, 10, 40))))

    def test_rows_that_go_back(self):
        # Each put goes back till its box has a 1, which it writes itself.
        rows = (("read", 0, ((1, 2),), 1), ("write", 0, 1, 0), ("end",))
        for hands, boxes in SIZES:
            looks = ((("read", 0, ((1, 1),), 2), ("told", (1,) * hands), ("told", (0,) * hands)),) * hands
            self.shown(("tables", hands, boxes, (rows,) * hands, looks))

    def test_a_way_back_that_no_content_takes(self):
        # Rows that would go round are there, but each content from 0 to 9 leads to the end.
        jumps = tuple((content, 1) for content in range(10))
        for hands, boxes in SIZES:
            puts = ((("read", 0, jumps, 0), ("write", 0, 3, 2), ("end",)),) * hands
            looks = ((("read", 0, jumps, 0), ("told", (1,) * hands)),) * hands
            self.shown(("tables", hands, boxes, puts, looks))


class TestNoEnd(Hiding):
    def test_looks_that_never_end(self):
        for hands, boxes in SIZES:
            for rows in ENDLESS:
                manner = tables(hands, boxes)[:4] + ((rows,) * hands,)
                hand = self.refused(manner)
                self.assertIn(hand, range(hands))
                self.assertFalse(always_ends(manner, hand, "look", 300))

    def test_puts_that_never_end(self):
        for hands, boxes in SIZES:
            puts = (((("read", 0, (), 0),)),) * hands
            manner = ("tables", hands, boxes, puts, tables(hands, boxes)[4])
            hand = self.refused(manner)
            self.assertIn(hand, range(hands))
            self.assertFalse(always_ends(manner, hand, "put", 300))

    def test_just_one_hand_s_put_never_ends(self):
        for hands, boxes in SIZES:
            for hand in range(hands):
                manner = tables(hands, boxes)
                puts = manner[3][:hand] + ((("read", 0, (), 0),),) + manner[3][hand + 1:]
                refused = self.refused(("tables", hands, boxes, puts, manner[4]))
                self.assertIn(refused, (None, hand))

    def test_three_hundred_steps_and_one_more(self):
        for tail, refused in ((1, None), (6, None), (7, None), (8, 3), (9, 3)):
            manner = ("tables", 4, 2, ((("read", 0, (), 1), ("end",)),) * 4, (counting_look(tail),) * 4)
            self.assertTrue(is_manner(manner))
            self.assertEqual(always_ends(manner, 3, "look", 300), refused is None)
            self.assertEqual(self.refused(manner), refused)
            if refused is None:
                self.shown(manner)

    def test_drawn_tables(self):
        chance = random.Random(242)
        found = []
        for _ in range(100):
            manner = drawn_tables(chance, 3, 1, False, 5)
            hand = self.refused(manner)
            found.append(hand is None)
            if hand is None:
                self.shown(manner)
            else:
                ends = [always_ends(manner, hand, word, 300) for word in ("put", "look")]
                self.assertIn(False, ends, (manner, hand))
        self.assertIn(True, found)
        self.assertIn(False, found)

    def test_drawn_tables_of_more_hands(self):
        chance = random.Random(243)
        for _ in range(20):
            for hands, boxes in SIZES[1:]:
                manner = drawn_tables(chance, hands, boxes, False, 5)
                hand = self.refused(manner)
                if hand is None:
                    self.shown(manner)
                else:
                    # The last hand looks and the others put; the other deed is asked of only where this one ends.
                    words = ("look", "put") if hand == hands - 1 else ("put", "look")
                    self.assertFalse(all(always_ends(manner, hand, word, 300) for word in words), (manner, hand))
