import random

from tests.asking import Asking
from tests.oddities import ANYTHING, NEITHER, spoiled, with_part
from tests.orderwords import drawn_story
from tests.samples import all_plain_manners
from tests.woven import drawn_deeds, drawn_weaving
from wholeglance.manners import places_of
from wholeglance.stories import story
from wholeglance.stories_told import is_story

LOOK = ("look",)
PUT = ("put", 1, 5)
GOOD = ((0, PUT, 0, 2, None), (1, LOOK, 0, 3, (0, 5)), (0, LOOK, 2, None, None), (1, ("put", 0, (1,)), 4, None, None))


def look(hand, begin, end, told):
    return (hand, LOOK, begin, end, told)


class TestIsStory(Asking):
    def test_stories(self):
        self.holds(is_story, 2, ())
        self.holds(is_story, 2, GOOD)
        for places in (1, 2, 3, 4, 5):
            self.holds(is_story, places, (look(0, 0, 1, (0,) * places), (1, ("put", places - 1, 7), 0, 9, None)))

    def test_any_hand_puts_at_any_place(self):
        self.holds(is_story, 2, tuple((hand, ("put", hand % 2, hand), 0, 1, None) for hand in range(10)))

    def test_begins_alike_and_ends_beside_begins(self):
        self.holds(is_story, 1, tuple(look(hand, 3, 4 + hand, (0,)) for hand in (9, 0, 5)))
        self.holds(is_story, 1, (look(0, 0, 1, (0,)), look(0, 1, 2, (0,)), look(0, 2, 3, (0,))))
        self.holds(is_story, 1, (look(0, 0, 1, (0,)), look(1, 1, 2, (0,)), look(0, 1, 3, (0,))))

    def test_times_however_great(self):
        self.holds(is_story, 1, (look(0, 10 ** 30, 10 ** 40, (0,)),))

    def test_last_rows_without_an_end(self):
        self.holds(is_story, 1, (look(0, 0, None, None), (1, ("put", 0, 1), 0, None, None)))
        self.holds(is_story, 1, (look(0, 0, 5, (0,)), (1, ("put", 0, 1), 1, None, None), look(0, 5, None, None)))

    def test_fourteen_rows_and_no_more(self):
        rows = tuple(look(0, begin, begin + 1, (0,)) for begin in range(15))
        self.holds(is_story, 1, rows[:13])
        self.holds(is_story, 1, rows[:14])
        self.fails(is_story, 1, rows)

    def test_hands(self):
        for hand in (0, 9):
            self.holds(is_story, 1, (look(hand, 0, 1, (0,)),))
        for hand in (-1, 10, 11):
            self.fails(is_story, 1, (look(hand, 0, 1, (0,)),))

    def test_deeds_and_places(self):
        for deed in (("put", 0, 1), ("put", 1, -5), ("put", 0, ((1, (2, 3)), ()))):
            self.holds(is_story, 2, ((0, deed, 0, 1, None),))
        for deed in (("put", 2, 1), ("put", -1, 1), ("put", 0), ("put", 0, 1, 1), ("put", 0, 10 ** 12), ("put", 0, None),
                     ("put", 0, (((1,),), ((((2,),),),))), ("put", None, 1), ("puts", 0, 1), ("look", 0), (), ("told",),
                     ["look"], "look", ("put", 0, [1])):
            self.fails(is_story, 2, ((0, deed, 0, 1, None),))
        for deed in (("look", 0), ("look", "look"), ("looks",), ["look"], (("look",),)):
            self.fails(is_story, 2, ((0, deed, 0, 1, (0, 0)),))
            self.fails(is_story, 2, ((0, deed, 0, None, None),))
        self.fails(is_story, 1, (look(0, 0, 1, (0,)), (0, ("put", 1, 1), 1, 2, None)))

    def test_times(self):
        for begin, end in ((0, 1), (5, 6), (0, 100)):
            self.holds(is_story, 1, (look(0, begin, end, (0,)),))
        for begin, end in ((0, 0), (-1, 1), (1, 0), (5, 5), (5, 4), (None, 1), (-1, -1)):
            self.fails(is_story, 1, (look(0, begin, end, (0,)),))
            self.fails(is_story, 1, ((0, ("put", 0, 1), begin, end, None),))
        self.fails(is_story, 1, (look(0, -1, None, None),))

    def test_tellings(self):
        self.holds(is_story, 2, (look(0, 0, 1, ((1, 2), -7)),))
        for told in (None, (), (0,), (0, 0, 0), [0, 0], (0, None), (0, 10 ** 12), (0, True), 0, "told"):
            self.fails(is_story, 2, (look(0, 0, 1, told),))
        for told in ((0, 0), (), 0, False):
            self.fails(is_story, 2, (look(0, 0, None, told),))
            self.fails(is_story, 2, ((0, PUT, 0, 1, told),))
            self.fails(is_story, 2, ((0, PUT, 0, None, told),))

    def test_rows_that_overlap(self):
        self.fails(is_story, 1, (look(0, 0, 2, (0,)), look(0, 1, 3, (0,))))
        self.fails(is_story, 1, (look(0, 0, 1, (0,)), look(0, 0, 2, (0,))))
        self.fails(is_story, 1, (look(0, 0, None, None), look(0, 1, 3, (0,))))
        self.fails(is_story, 1, (look(0, 0, None, None), look(0, 1, None, None)))
        self.fails(is_story, 1, (look(0, 0, 9, (0,)), look(1, 1, 2, (0,)), look(0, 8, 10, (0,))))
        self.fails(is_story, 1, (look(0, 0, 9, (0,)), look(1, 1, 2, (0,)), look(0, 8, None, None)))

    def test_begins_that_fall(self):
        self.fails(is_story, 1, (look(0, 1, 2, (0,)), look(1, 0, 3, (0,))))
        self.fails(is_story, 1, (look(0, 3, 4, (0,)), look(0, 1, 2, (0,))))
        self.fails(is_story, 1, (look(0, 2, 3, (0,)), look(1, 5, 6, (0,)), look(2, 4, 6, (0,))))

    def test_lengths_of_rows(self):
        for row in ((), (0,), (0, PUT, 0, 1), (0, PUT, 0, 1, None, None)):
            self.fails(is_story, 2, (row,))

    def test_one_thing_of_another_kind(self):
        # A number within a tuple is a value too, where one stands.
        values = [repr(with_part(GOOD, place, row)) for place, row in (
            (0, (0, ("put", 1, (5,)), 0, 2, None)), (1, look(1, 0, 3, ((0,), 5))), (1, look(1, 0, 3, (0, (5,)))),
            (3, (1, ("put", 0, ((1,),)), 4, None, None)))]
        for wrong in spoiled(GOOD):
            if repr(wrong) in values:
                values.remove(repr(wrong))
                self.holds(is_story, 2, wrong)
            else:
                self.fails(is_story, 2, wrong)
        self.assertEqual(values, [])

    def test_things_of_any_kind(self):
        for thing in ANYTHING:
            self.fails(is_story, 2, thing)
            self.fails(is_story, 2, (thing,))
            self.fails(is_story, 2, (GOOD[0], thing))
        for place in range(5):
            for thing in NEITHER:
                if thing is not None or place < 3:
                    self.fails(is_story, 2, (with_part(GOOD[1], place, thing),))

    def test_stories_told_and_drawn(self):
        chance = random.Random(61)
        for manner in all_plain_manners()[::7]:
            jobs = drawn_deeds(manner, chance, 14 // manner[1])
            weaving = drawn_weaving(manner, jobs, chance, 120)
            self.holds(is_story, places_of(manner), story(manner, jobs, weaving))
        for places in (1, 2, 3, 4, 5):
            for _ in range(60):
                self.holds(is_story, places, drawn_story(places, chance, 14, chance.random() < 0.5))
