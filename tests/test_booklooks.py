import random
import unittest

from tests.asking import Asking
from tests.bookwords import replayed, tells_wrong
from tests.oddities import ANYTHING, doubled, spoiled, with_part
from tests.samples import all_plain_manners, some_manners
from tests.woven import drawn_deeds, drawn_jobs, drawn_weaving
from wholeglance.booklooks import shows_book, shows_break
from wholeglance.books import book
from wholeglance.breaking import breaking
from wholeglance.orderlooks import shows_none
from wholeglance.rooms import begun, may_step, stepped, walked

LOOK = ("look",)
ONCE = ("once", 2)


def put(place, value):
    return ("put", place, value)


def deeds(*rows):
    return tuple(("deeds", row) for row in rows)


JOBS = deeds((put(0, 5),), (LOOK,))
ROOMS = book(ONCE, JOBS, 100)[1]
TORN = deeds((LOOK,), (put(1, 5),), (put(2, 6),))
TEARING = (0, 0, 1, 2, 0)


def shuffled(manner, jobs, chance):
    """All rooms in a drawn order by which each is come to from one ahead of it."""
    found = []
    still = [begun(manner, jobs)]
    while still:
        room = still.pop(chance.randrange(len(still)))
        found.append(room)
        for hand in may_step(manner, jobs, room):
            behind = stepped(manner, jobs, room, hand)
            if behind not in found and behind not in still:
                still.append(behind)
    return tuple(found)


def all_rooms(manner, jobs):
    """Also where some step tells wrong."""
    return shuffled(manner, jobs, random.Random(1))


class TestShowsBook(Asking):
    def test_what_book_tells(self):
        self.holds(shows_book, ONCE, JOBS, ROOMS)
        for manner in (("once", 1), ("twice", 2, 0), ("handed", 2, 0, 2), ("signs", 2, 0, 0, 1), ("shared", 2, 2, 1, 1, 3)):
            place = 0 if manner[0] == "shared" else manner[1] - 1
            jobs = deeds((LOOK,), (put(place, 5),))[-manner[1]:]
            told = book(manner, jobs, 5000)
            self.assertEqual(told[0], "holds")
            self.holds(shows_book, manner, jobs, told[1])

    def test_any_order_by_which_each_is_come_to_from_one_ahead(self):
        chance = random.Random(231)
        jobs = deeds((put(0, 5), LOOK), (LOOK, put(1, 6)))
        for _ in range(30):
            self.holds(shows_book, ONCE, jobs, shuffled(ONCE, jobs, chance))

    def test_no_step_can_be(self):
        for manner in some_manners(2)[:-1]:
            jobs = deeds((), ())
            self.holds(shows_book, manner, jobs, (begun(manner, jobs),))
            self.fails(shows_book, manner, jobs, ())
            self.fails(shows_book, manner, jobs, (begun(manner, jobs),) * 2)

    def test_a_room_left_out(self):
        for place in range(len(ROOMS)):
            self.fails(shows_book, ONCE, JOBS, ROOMS[:place] + ROOMS[place + 1:])
        for count in range(len(ROOMS)):
            self.fails(shows_book, ONCE, JOBS, ROOMS[:count])

    def test_a_room_twice(self):
        for room in ROOMS:
            for place in range(len(ROOMS) + 1):
                self.fails(shows_book, ONCE, JOBS, ROOMS[:place] + (room,) + ROOMS[place:])
        self.fails(shows_book, ONCE, JOBS, ROOMS + ROOMS)

    def test_rooms_exchanged(self):
        self.fails(shows_book, ONCE, JOBS, tuple(reversed(ROOMS)))
        for place in range(1, len(ROOMS)):
            self.fails(shows_book, ONCE, JOBS, (ROOMS[place],) + ROOMS[1:place] + (ROOMS[0],) + ROOMS[place + 1:])
            self.fails(shows_book, ONCE, JOBS, (ROOMS[place],) + ROOMS[:place] + ROOMS[place + 1:])
        # The room behind two steps of hand 1 is come to by its first step alone.
        first, second = walked(ONCE, JOBS, (1,)), walked(ONCE, JOBS, (1, 1))
        one, other = ROOMS.index(first), ROOMS.index(second)
        exchanged = with_part(with_part(ROOMS, one, second), other, first)
        self.fails(shows_book, ONCE, JOBS, exchanged)

    def test_any_two_exchanged_are_taken_just_where_each_is_come_to_by_one_ahead(self):
        for one in range(len(ROOMS)):
            for other in range(one):
                exchanged = with_part(with_part(ROOMS, one, ROOMS[other]), other, ROOMS[one])
                expected = exchanged[0] == ROOMS[0]
                for place in range(1, len(exchanged)):
                    behind = [stepped(ONCE, JOBS, room, hand) for room in exchanged[:place]
                              for hand in may_step(ONCE, JOBS, room)]
                    expected = expected and exchanged[place] in behind
                self.assertIs(shows_book(ONCE, JOBS, exchanged), expected)

    def test_begun_elsewhere(self):
        self.fails(shows_book, ONCE, JOBS, ROOMS[1:])
        self.fails(shows_book, ONCE, deeds((put(0, 6),), (LOOK,)), ROOMS)
        self.fails(shows_book, ("twice", 2, 0), JOBS, ROOMS)
        boxes = ((("own", 0), 5), (("own", 1), 0))
        self.fails(shows_book, ONCE, JOBS, ((boxes, ROOMS[0][1]),) + ROOMS[1:])

    def test_a_room_that_is_not_come_to(self):
        idle = ((), (), ())
        other = (((("own", 0), 7), (("own", 1), 0)), (idle, idle))
        far = (((("own", 0), 5), (("own", 1), 0)), (((None,), (), ()), (((5, 5),), (), ())))
        for room in (other, far, (), 5, (idle, idle), (other,), other + (0,), "room", None, ((), ())):
            for place in range(len(ROOMS) + 1):
                self.fails(shows_book, ONCE, JOBS, ROOMS[:place] + (room,) + ROOMS[place:])
            for place in range(len(ROOMS)):
                self.fails(shows_book, ONCE, JOBS, with_part(ROOMS, place, room))

    def test_a_step_that_tells_wrong(self):
        rooms = all_rooms(("once", 3), TORN)
        self.fails(shows_book, ("once", 3), TORN, rooms)
        fine = deeds((LOOK,), (put(1, 5),), ())
        self.holds(shows_book, ("once", 3), fine, all_rooms(("once", 3), fine))
        # All but the wrong room itself, which no room leads to then.
        wrong = walked(("once", 3), TORN, TEARING)
        self.fails(shows_book, ("once", 3), TORN, tuple(room for room in rooms if room != wrong))

    def test_lists_truths_and_others_at_any_depth(self):
        self.holds(shows_book, ONCE, JOBS, ROOMS)
        for wrong in spoiled(ROOMS):
            self.fails(shows_book, ONCE, JOBS, wrong)
        signs = ("signs", 1, 1, 1, 2)
        jobs = deeds((put(0, (1, 0)), LOOK))
        rooms = book(signs, jobs, 100)[1]
        self.holds(shows_book, signs, jobs, rooms)
        for wrong in spoiled(rooms):
            self.fails(shows_book, signs, jobs, wrong)

    def test_other_words(self):
        for word in ("Own", "", "box", b"own", None, 0):
            boxes = (((word, 0), 0), (("own", 1), 0))
            self.fails(shows_book, ONCE, JOBS, ((boxes, ROOMS[0][1]),) + ROOMS[1:])

    def test_things_of_any_kind(self):
        for thing in ANYTHING:
            self.fails(shows_book, ONCE, JOBS, thing)
            self.fails(shows_book, ONCE, JOBS, (thing,))
            self.fails(shows_book, ONCE, JOBS, ROOMS + (thing,))
            self.fails(shows_book, ONCE, JOBS, (thing,) + ROOMS[1:])
            self.fails(shows_book, ONCE, JOBS, (ROOMS[0], (ROOMS[1][0], thing)) + ROOMS[2:])
            self.fails(shows_book, ONCE, JOBS, (ROOMS[0], (thing, ROOMS[1][1])) + ROOMS[2:])

    def test_drawn_books_with_one_thing_otherwise(self):
        chance = random.Random(232)
        for manner in all_plain_manners()[::17]:
            jobs = drawn_deeds(manner, chance, 1)
            told = book(manner, jobs, 80)
            if told[0] == "holds":
                self.holds(shows_book, manner, jobs, told[1])
                place = chance.randrange(len(told[1]))
                self.fails(shows_book, manner, jobs, told[1][:place] + told[1][place + 1:])
                self.fails(shows_book, manner, jobs, list(told[1]))
                self.fails(shows_book, manner, jobs, with_part(told[1], place, list(told[1][place])))


class TestShowsBreak(Asking):
    def test_a_weaving_whose_last_step_tells_wrong(self):
        self.holds(shows_break, ("once", 3), TORN, TEARING)
        self.fails(shows_break, ("once", 3), TORN, (0, 0, 2, 1, 0))
        self.fails(shows_break, ("once", 3), TORN, (0, 0, 0))

    def test_a_step_more_or_less(self):
        jobs = deeds((LOOK, LOOK), (put(1, 5),), (put(2, 6), LOOK))
        self.holds(shows_break, ("once", 3), jobs, TEARING)
        for count in range(len(TEARING)):
            self.fails(shows_break, ("once", 3), jobs, TEARING[:count])
        for more in ((0,), (2,), (0, 0, 0), (1,)):
            self.fails(shows_break, ("once", 3), jobs, TEARING + more)
        self.fails(shows_break, ("once", 3), TORN, TEARING + (0,))

    def test_whatever_steps_ahead_of_it_told(self):
        # Hand 0 tells wrong, and then hand 3 does so too, with another step between.
        jobs = deeds((LOOK,), (put(1, 5),), (put(2, 6), put(2, 7)), (LOOK,))
        self.holds(shows_break, ("once", 4), jobs, (0, 0, 3, 3, 1, 2, 0, 0))
        self.fails(shows_break, ("once", 4), jobs, (0, 0, 3, 3, 1, 2, 0, 0, 2))
        self.holds(shows_break, ("once", 4), jobs, (0, 0, 3, 3, 1, 2, 0, 0, 2, 3, 3))

    def test_a_hand_that_is_not_there_or_can_not_step(self):
        for hand in (-1, -3, 3, 4, 10 ** 30):
            for place in range(len(TEARING)):
                self.fails(shows_break, ("once", 3), TORN, with_part(TEARING, place, hand))
                self.fails(shows_break, ("once", 3), TORN, TEARING[:place] + (hand,) + TEARING[place:])
        self.fails(shows_break, ("once", 3), TORN, (1,) + TEARING)
        self.fails(shows_break, ("once", 3), TORN, (0, 0, 1, 1, 2, 0))

    def test_lists_truths_and_things_of_any_kind(self):
        for wrong in spoiled(TEARING):
            self.fails(shows_break, ("once", 3), TORN, wrong)
        for thing in ANYTHING + ((),):
            self.fails(shows_break, ("once", 3), TORN, thing)
            self.fails(shows_break, ("once", 3), TORN, TEARING + (thing,))
            self.fails(shows_break, ("once", 3), TORN, TEARING[:-1] + (thing,))
            self.fails(shows_break, ("once", 3), TORN, (thing,) + TEARING[1:])

    def test_by_words_in_drawn_weavings(self):
        chance = random.Random(233)
        found = []
        for manner in all_plain_manners()[::3]:
            jobs = drawn_jobs(manner, chance)
            weaving = drawn_weaving(manner, jobs, chance, 40)
            for end in range(len(weaving) + 1):
                woven = replayed(manner, jobs, weaving[:end])
                expected = end > 0 and tells_wrong(woven, weaving[end - 1])
                self.assertIs(shows_break(manner, jobs, weaving[:end]), expected, (manner, jobs, weaving[:end]))
                found.append(expected)
        self.assertIn(False, found)

    def test_by_words_in_weavings_that_break(self):
        for manner in all_plain_manners()[::11]:
            told = breaking(manner)
            for end in range(len(told[1]) + 1 if told else 0):
                weaving = told[1][:end]
                expected = end > 0 and tells_wrong(replayed(manner, told[0], weaving), weaving[-1])
                self.assertIs(shows_break(manner, told[0], weaving), expected)
                self.assertIs(expected, end == len(told[1]))


class TestThingsThatHoldTheSameThingTwice(unittest.TestCase):
    """Sixty deep, each part holding the one below it twice: far too large to be walked."""

    def test_of_anything(self):
        thing = doubled(60)
        for wrong in (thing, (thing,), ROOMS + (thing,), with_part(ROOMS, 1, (thing, ROOMS[1][1]))):
            self.assertIs(shows_book(ONCE, JOBS, wrong), False)
        for wrong in (thing, TEARING + (thing,)):
            self.assertIs(shows_break(("once", 3), TORN, wrong), False)
        rows = ((0, LOOK, 0, 1, (5,)), (1, put(0, (1, 1)), 1, 2, None))
        self.assertIs(shows_none(1, rows, (((), (0,)),)), True)
        for wrong in (thing, (((), (0,)), ((1,), (thing,))), (((), (0,)), (thing, (4,)))):
            self.assertIs(shows_none(1, rows, wrong), False)
