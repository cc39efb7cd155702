from tests.asking import Asking
from tests.oddities import NEITHER, nested, with_part
from wholeglance.values import is_state, is_value

NINES = 10 ** 12 - 1


class TestIsValue(Asking):
    def test_numbers_have_at_most_twelve_figures(self):
        for number in (0, 1, -1, 7, 10 ** 11, NINES, -NINES):
            self.holds(is_value, number)
        for number in (10 ** 12, -(10 ** 12), 10 ** 12 + 5, 10 ** 40, -(10 ** 40)):
            self.fails(is_value, number)

    def test_numbers_within_have_at_most_twelve_figures(self):
        for wrap in (lambda x: (x,), lambda x: (0, (x, 1)), lambda x: (((x,),), 3)):
            for number in (0, NINES, -NINES):
                self.holds(is_value, wrap(number))
            for number in (10 ** 12, -(10 ** 12)):
                self.fails(is_value, wrap(number))

    def test_tuples_have_at_most_eight_parts(self):
        for length in range(9):
            self.holds(is_value, (5,) * length)
            self.holds(is_value, ((5,) * length,))
            self.holds(is_value, (((5,) * length,), 1))
        for length in (9, 10, 50):
            self.fails(is_value, (5,) * length)
            self.fails(is_value, ((5,) * length,))
            self.fails(is_value, (1, ((5,) * length,)))
        self.holds(is_value, (((0,) * 8,) * 8,) * 8)
        self.fails(is_value, (((0,) * 8,) * 8,) * 9)

    def test_tuples_are_nested_at_most_three_deep(self):
        for thing in ((), ((),), (((),),), (1,), ((1,),), (((1,),),), (1, (2, (3,), 4), 5)):
            self.holds(is_value, thing)
        for thing in (((((),),),), ((((1,),),),), (1, (2, (3, (4,)))), (0, 0, ((0, ()), ((), (()), ((),))))):
            self.fails(is_value, thing)
        for depth in (4, 5, 30, 60):
            self.fails(is_value, nested(tuple, depth))

    def test_other_things_are_none(self):
        for thing in NEITHER:
            self.fails(is_value, thing)

    def test_other_things_within_are_none(self):
        for whole in ((1,), (1, 2, 3), (0,) * 8):
            for place in range(len(whole)):
                for thing in NEITHER:
                    spoilt = with_part(whole, place, thing)
                    self.fails(is_value, spoilt)
                    self.fails(is_value, (4, spoilt))
                    self.fails(is_value, ((spoilt,),))


class TestIsState(Asking):
    def test_a_value_for_each_place(self):
        for places in range(1, 6):
            for value in (0, -3, NINES, (), (1, 2), (((1,),),), (0,) * 8):
                self.holds(is_state, places, (value,) * places)
        self.holds(is_state, 3, (0, (1, (2, (3,))), -NINES))

    def test_a_place_more_or_fewer(self):
        for places in range(1, 6):
            for length in range(12):
                if length != places:
                    self.fails(is_state, places, (0,) * length)

    def test_no_value_at_some_place(self):
        wrongs = NEITHER + (10 ** 12, -(10 ** 12), (0,) * 9, nested(tuple, 4), nested(tuple, 59), (True,), ([],))
        for places in range(1, 6):
            for place in range(places):
                for wrong in wrongs:
                    self.fails(is_state, places, with_part((0,) * places, place, wrong))

    def test_other_things_are_none(self):
        for places in range(1, 6):
            for thing in NEITHER + (0, 1, 2, places):
                self.fails(is_state, places, thing)
            self.fails(is_state, places, [0] * places)
            self.fails(is_state, places, dict.fromkeys(range(places), 0))
            self.fails(is_state, places, "0" * places)
