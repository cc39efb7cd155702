import random
from itertools import product

from tests.asking import Asking
from tests.oddities import ANYTHING, NEITHER, spoiled, with_part
from tests.orderwords import all_orders, choices, closure, drawn_story, fits_order
from wholeglance.orderlooks import shows_none, shows_order
from wholeglance.orders import ordered

LOOK = ("look",)


def look(hand, begin, end, *told):
    return (hand, LOOK, begin, end, told or None)


def put(hand, place, value, begin, end):
    return (hand, ("put", place, value), begin, end, None)


# A put that is seen, one without an end, a look that sees the first alone, and one without an end.
ROWS = (put(0, 0, 5, 0, 4), put(1, 1, 6, 0, None), look(2, 1, 5, 5, 0), look(0, 4, None))
NONE = (put(0, 0, 5, 0, 2), look(1, 1, 3, 5), look(2, 3, 4, 0), put(3, 0, 7, 3, None))
ROOMS = (((), (0,)), ((0,), (5,)), ((0, 1), (5,)), ((0, 1, 3), (7,)))


class TestShowsOrder(Asking):
    def test_orders(self):
        for order in ((0, 2), (0, 2, 1)):
            self.holds(shows_order, 2, ROWS, order)
        self.holds(shows_order, 2, (), ())
        self.holds(shows_order, 1, (put(0, 0, 5, 0, None),), ())
        self.holds(shows_order, 1, (put(0, 0, 5, 0, None),), (0,))
        self.holds(shows_order, 1, (look(0, 0, None),), ())

    def test_one_thing_otherwise(self):
        wrong = [
            (), (0,), (2,), (2, 0), (0, 2, 3), (0, 2, 1, 3), (0, 1, 2), (1, 0, 2), (0, 2, 0), (0, 0, 2), (0, 2, 2),
            (0, 2, 1, 1), (0, 2, 4), (0, 2, -1), (0, 2, -3), (0, -2), (0, 2, 1, 0, 2), (2, 1, 0), (1,), (0, 1),
        ]
        for order in wrong:
            self.fails(shows_order, 2, ROWS, order)
        self.fails(shows_order, 2, (), (0,))
        self.fails(shows_order, 1, (look(0, 0, None),), (0,))

    def test_a_row_behind_one_that_it_is_ahead_of(self):
        rows = (put(0, 0, 5, 0, 1), put(1, 0, 5, 1, 2), put(2, 0, 5, 0, 2))
        for order in ((0, 1, 2), (0, 2, 1), (2, 0, 1)):
            self.holds(shows_order, 1, rows, order)
        for order in ((1, 0, 2), (1, 2, 0), (2, 1, 0)):
            self.fails(shows_order, 1, rows, order)

    def test_lists_truths_and_things_of_any_kind(self):
        for wrong in spoiled((0, 2, 1)):
            self.fails(shows_order, 2, ROWS, wrong)
        for order in ([0, 2], (0, 2, True), (False, 2), (0, 2.0), (0, "2"), ((0, 2),), (0, (2,))):
            self.fails(shows_order, 2, ROWS, order)
        for thing in ANYTHING:
            self.fails(shows_order, 2, ROWS, thing)
            self.fails(shows_order, 2, ROWS, (0, 2, thing))
            self.fails(shows_order, 2, ROWS, (thing, 2))

    def test_all_tuples_of_rows_of_small_drawn_stories(self):
        chance = random.Random(91)
        for _ in range(200):
            places = chance.randint(1, 2)
            rows = drawn_story(places, chance, 4, chance.random() < 0.6)
            for order in choices(rows):
                self.assertIs(shows_order(places, rows, order), fits_order(places, rows, order), (rows, order))

    def test_tuples_with_rows_twice_or_none_of_them(self):
        rows = (put(0, 0, 5, 0, 4), look(1, 0, 4, 5))
        for size in range(4):
            for order in product((-2, -1, 0, 1, 2), repeat=size):
                self.assertIs(shows_order(1, rows, order), order == (0, 1))


class TestShowsNone(Asking):
    def test_such_rooms_in_any_order_and_more_than_once(self):
        self.holds(shows_none, 1, NONE, ROOMS)
        self.holds(shows_none, 1, NONE, tuple(reversed(ROOMS)))
        self.holds(shows_none, 1, NONE, ROOMS + ROOMS)
        self.holds(shows_none, 1, (look(0, 0, 1, 5),), (((), (0,)),))

    def test_more_rooms_that_lead_on_likewise(self):
        self.holds(shows_none, 1, NONE, ROOMS + (((3,), (7,)), ((0, 3), (5,)), ((0, 1, 3), (5,))))
        self.holds(shows_none, 1, NONE, ROOMS + (((0, 1, 3), (4,)),))
        self.holds(shows_none, 1, NONE, (((1, 3), (9,)), ((0, 1, 3), (5,))) + ROOMS)
        self.holds(shows_none, 1, NONE, ROOMS + (((0, 1, 3), (((1,),),)),))
        # What is done need not have been done in turn: row 1 is ahead of row 3.
        self.holds(shows_none, 1, NONE, ROOMS + (((3,), (4,)), ((0, 3), (5,)), ((0, 1, 3), (5,))))

    def test_rooms_that_lead_elsewhere(self):
        for lacking in range(len(ROOMS)):
            self.fails(shows_none, 1, NONE, ROOMS[:lacking] + ROOMS[lacking + 1:])
        self.fails(shows_none, 1, NONE, ())
        self.fails(shows_none, 1, NONE, ROOMS + (((3,), (7,)),))
        self.fails(shows_none, 1, NONE, ROOMS + (((3,), (0,)),))
        self.holds(shows_none, 1, NONE, ROOMS + (((1,), (0,)),))
        self.fails(shows_none, 1, NONE, ROOMS + (((1, 3), (0,)),))

    def test_rooms_in_which_all_rows_with_an_end_are_done(self):
        self.fails(shows_none, 1, NONE, ROOMS + (((0, 1, 2, 3), (7,)),))
        self.fails(shows_none, 1, NONE, ROOMS + (((0, 1, 2), (5,)), ((0, 1, 2, 3), (7,))))
        self.fails(shows_none, 1, NONE, ROOMS + (((0, 1, 3), (0,)),))
        self.fails(shows_none, 1, (), (((), (0,)),))
        self.fails(shows_none, 1, (), ())
        self.fails(shows_none, 1, (look(0, 0, None),), (((), (0,)),))
        self.fails(shows_none, 1, (put(0, 0, 5, 0, None),), (((), (0,)), ((0,), (5,))))

    def test_rooms_of_another_form(self):
        for more in (((), (0, 0)), ((), ()), ((3, 1), (7,)), ((0, 0), (5,)), ((4,), (0,)), ((-1,), (0,)), ((0,),), (),
                     ((0,), (5,), ()), ((0, 1, 3), (10 ** 12,)), ((0, 1, 3), (((((5,),),),),)), ((0, 1, 3), (None,)),
                     ((0, 1, 3), (True,)), ((0, True, 3), (4,)), ([0, 1, 3], (4,)), ((0, 1, 3), [4]), ((0, 1, 3), 4),
                     ((0, 1, 3), (4, 4)), ((0, 3, 1), (4,)), ((0, 1, 1, 3), (4,)), ((0, 1, 3, 4), (4,)), [(0, 1, 3), (4,)],
                     ((-1, 0, 1, 3), (4,)), ((0, 1, 3), (4.0,)), ((0, 1, 3), ("4",))):
            self.fails(shows_none, 1, NONE, ROOMS + (more,))
        self.fails(shows_none, 1, NONE, list(ROOMS))

    def test_each_part_of_a_state_is_a_value(self):
        rows = (look(0, 0, 1, 5, 5, 5), put(1, 0, 1, 1, 2))
        self.holds(shows_none, 3, rows, (((), (0, 0, 0)), ((1,), (4, (), -1)),))
        for wrong in (None, True, 10 ** 12, 1.0, [1]):
            for place in range(3):
                state = with_part((4, (), -1), place, wrong)
                self.fails(shows_none, 3, rows, (((), (0, 0, 0)), ((1,), state)))

    def test_a_value_beyond_the_bounds_stands_where_the_story_puts_it(self):
        for value in (10 ** 13, (10 ** 13, 1), (((((0, 1),),),),), (0,) * 9):
            rows = (look(0, 0, 1, 5), put(1, 0, value, 1, 2))
            self.holds(shows_none, 1, rows, (((), (0,)), ((1,), (value,))))
            for wrong in spoiled(value) + [(value,), 10 ** 13 + 1, (10 ** 13,), (10 ** 13, 2), (10 ** 13, 1, 1), (0,) * 10]:
                self.fails(shows_none, 1, rows, (((), (0,)), ((1,), (wrong,))))

    def test_things_of_any_kind(self):
        for wrong in spoiled(ROOMS):
            self.fails(shows_none, 1, NONE, wrong)
        for thing in ANYTHING:
            self.fails(shows_none, 1, NONE, thing)
            self.fails(shows_none, 1, NONE, ROOMS + (thing,))
            self.fails(shows_none, 1, NONE, ROOMS + ((thing, (4,)),))
            if repr(thing) != "((((),),),)":
                self.fails(shows_none, 1, NONE, ROOMS + (((0, 1, 3), thing),))
        for thing in NEITHER:
            self.fails(shows_none, 1, NONE, ROOMS + (((0, 1, thing), (4,)),))
            self.fails(shows_none, 1, NONE, ROOMS + (((0, 1, 3), (thing,)),))

    def test_values_that_the_story_puts_stand_however_large(self):
        for value in (10 ** 12, -(10 ** 30), (1,) * 9, ((((((2,),),),),),), ((10 ** 13, (1,) * 20),), (((((),),),),)):
            rows = (put(0, 0, value, 0, 1), look(1, 1, 2, 0))
            told = ordered(1, rows)
            self.assertEqual(told, ("none", (((), (0,)), ((0,), (value,)))))
            self.holds(shows_none, 1, rows, told[1])
        rows = (put(0, 0, 10 ** 12, 0, 1), look(1, 1, 2, 0))
        rooms = ordered(1, rows)[1]
        self.fails(shows_none, 1, rows, rooms + (((0,), (10 ** 12 + 1,)),))
        self.fails(shows_none, 1, rows, rooms + (((0,), (float(10 ** 12),)),))
        self.holds(shows_none, 1, rows, rooms + (((0,), (7,)),))
        wide = (put(0, 0, ((((1, 1),),),), 0, 1), look(1, 1, 2, 0))
        rooms = ordered(1, wide)[1]
        self.holds(shows_none, 1, wide, rooms + (((0,), (((((1, 1),),),),)),))
        for pair in ((True, True), (True, 1), (1, True), (1, 1.0)):
            self.fails(shows_none, 1, wide, rooms + (((0,), ((((pair,),),),)),))

    def test_small_drawn_stories(self):
        chance = random.Random(92)
        for _ in range(300):
            places = chance.randint(1, 2)
            rows = drawn_story(places, chance, 5, chance.random() < 0.2)
            rooms, finished = closure(rows, [((), (0,) * places)])
            self.assertIs(shows_none(places, rows, rooms), not finished)
            self.assertIs(bool(all_orders(places, rows)), finished)
            if not finished:
                self.spoil(places, rows, rooms, chance)

    def spoil(self, places, rows, rooms, chance):
        for lacking in range(len(rooms)):
            self.fails(shows_none, places, rows, rooms[:lacking] + rooms[lacking + 1:])
        shuffled = list(rooms)
        chance.shuffle(shuffled)
        self.holds(shows_none, places, rows, tuple(shuffled))
        done = tuple(number for number in range(len(rows)) if chance.random() < 0.4)
        more, finished = closure(rows, [(done, tuple(chance.randint(0, 3) for _ in range(places)))])
        self.assertIs(shows_none(places, rows, rooms + more), not finished)
        self.assertIs(shows_none(places, rows, more), not finished and ((), (0,) * places) in more)
        if len(set(more + rooms)) > len(rooms) and len(more) > 1:
            some = rooms + more[:1]
            self.assertIs(shows_none(places, rows, some), not finished and set(more) <= set(some))

    def test_never_both(self):
        chance = random.Random(93)
        for _ in range(200):
            rows = drawn_story(2, chance, 6, chance.random() < 0.5)
            told = ordered(2, rows)
            self.assertIs(shows_order(2, rows, told[1]), told[0] == "order")
            self.assertIs(shows_none(2, rows, told[1]), told[0] == "none")
            if told[0] == "order":
                self.fails(shows_none, 2, rows, closure(rows, [((), (0, 0))])[0])
            else:
                for order in all_orders_to_try(rows, chance):
                    self.fails(shows_order, 2, rows, order)


def all_orders_to_try(rows, chance):
    numbers = list(range(len(rows)))
    found = []
    for _ in range(10):
        chance.shuffle(numbers)
        found.append(tuple(numbers))
    return found
