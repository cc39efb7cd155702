from fractions import Fraction
from itertools import permutations, product
from math import gcd

from tests.asking import Asking
from wholeglance.jobs import answer_of, next_deed

LOOK = ("look",)


class Course(Asking):
    def comes(self, hand, job, told, deed):
        """This deed is to come, so there is no answer yet."""
        self.assertEqual(self.asked(next_deed, hand, job, told), deed, (job, told))
        self.assertIsNone(self.asked(answer_of, hand, job, told), (job, told))

    def ends(self, hand, job, told, answer):
        self.assertIsNone(self.asked(next_deed, hand, job, told), (job, told))
        found = self.asked(answer_of, hand, job, told)
        self.assertEqual(found, answer, (job, told))
        self.assertIs(type(found), type(answer))


class TestDeeds(Course):
    def test_in_order(self):
        row = (("put", 1, 5), LOOK, LOOK, ("put", 1, (2, 3)))
        told = (None, (0, 5), (7, 5), None)
        for done in range(4):
            self.comes(1, ("deeds", row), told[:done], row[done])
        self.ends(1, ("deeds", row), told, ())

    def test_none_and_twelve(self):
        for hand in range(5):
            self.ends(hand, ("deeds", ()), (), ())
        row = tuple(("put", 0, number) for number in range(12))
        for done in range(12):
            self.comes(0, ("deeds", row), (None,) * done, ("put", 0, done))
        self.ends(0, ("deeds", row), (None,) * 12, ())

    def test_places_of_shared_stay_as_they_are(self):
        self.comes(0, ("deeds", (("put", 3, 9),)), (), ("put", 3, 9))


class TestSums(Course):
    def test_numbers_and_looks_in_any_order(self):
        items = (4, None, -10, 3, None, None, 0)
        job = ("sums", items)
        told = (None, (1, 4, 2), None, None, (-5, -3, 0), (0, 0, 0), None)
        deeds = [("put", 2, 4), LOOK, ("put", 2, -6), ("put", 2, -3), LOOK, LOOK, ("put", 2, -3)]
        for done, deed in enumerate(deeds):
            self.comes(2, job, told[:done], deed)
        self.ends(2, job, told, (7, -8, 0))

    def test_none_and_eight(self):
        self.ends(3, ("sums", ()), (), ())
        self.ends(0, ("sums", (5,)), (None,), ())
        big = 10 ** 9 - 1
        job = ("sums", (big,) * 8)
        for done in range(8):
            self.comes(0, job, (None,) * done, ("put", 0, big * (done + 1)))
        self.ends(0, job, (None,) * 8, ())
        looks = ((1,), (2,), (3,), (4,), (5,), (6,), (7,), (8,))
        for done in range(8):
            self.comes(0, ("sums", (None,) * 8), looks[:done], LOOK)
        self.ends(0, ("sums", (None,) * 8), looks, (1, 2, 3, 4, 5, 6, 7, 8))

    def test_all_places_count_whatever_hand_is_asked_of(self):
        for hand in range(5):
            self.ends(hand, ("sums", (None, 1, None)), ((1, 2, 3, 4, 5), None, (0, -2, 0, 9, 0)), (15, 7))
            self.comes(hand, ("sums", (8, 9)), (None,), ("put", hand, 17))

    def test_one_s_own_place_may_tell_anything(self):
        self.ends(0, ("sums", (100, None)), (None, (0, 3)), (3,))

    def test_all_short_rows(self):
        states = ((1, 2), (-4, 0), (0, 0))
        for items in product((None, 0, 5, -2), repeat=3):
            told = tuple(states[place] if item is None else None for place, item in enumerate(items))
            so_far = 0
            for done, item in enumerate(items):
                so_far += item or 0
                self.comes(1, ("sums", items), told[:done], LOOK if item is None else ("put", 1, so_far))
            self.ends(1, ("sums", items), told, tuple(sum(state) for state in told if state is not None))


def name_by_hand(hand, own, states):
    """The numbers put, and the answer or None, worked out another way."""
    numbers = [1]
    for state in states:
        others = {place: value for place, value in enumerate(state) if place != hand and value != 0}
        seconds = {value[1] for value in others.values()}
        if numbers[-1] not in seconds:
            return numbers, numbers[-1]
        ids = sorted([value[0] for value in others.values()] + [own])
        free = [number for number in range(1, 40) if number not in seconds]
        numbers.append(free[ids.index(own)])
    return numbers, None


class TestName(Course):
    def test_alone(self):
        for own in (7, 0, -5, 10 ** 9 - 1):
            self.comes(0, ("name", own), (), ("put", 0, (own, 1)))
            self.comes(0, ("name", own), (None,), LOOK)
            self.ends(0, ("name", own), (None, ((own, 1),)), 1)

    def test_no_other_has_the_number(self):
        for others in ((0, 0), (0, (5, 2)), ((9, 3), (5, 2)), ((9, 2), 0)):
            self.ends(0, ("name", 7), (None, ((7, 1),) + others), 1)

    def test_the_number_is_another_s(self):
        job = ("name", 7)
        # The first of two ids takes the first free number, the second the second.
        self.comes(0, job, (None, ((7, 1), (9, 1), 0)), ("put", 0, (7, 2)))
        self.comes(0, job, (None, ((7, 1), (3, 1), 0)), ("put", 0, (7, 3)))
        self.comes(0, job, (None, ((7, 1), (3, 1), (5, 1))), ("put", 0, (7, 4)))
        self.comes(0, job, (None, ((7, 1), (3, 1), (5, 2))), ("put", 0, (7, 5)))
        self.comes(0, job, (None, ((7, 1), (3, 1), (9, 3))), ("put", 0, (7, 4)))
        self.comes(0, job, (None, ((7, 1), (8, 3), (9, 1))), ("put", 0, (7, 2)))
        self.comes(0, job, (None, ((7, 1), (-3, 2), (-9, 1))), ("put", 0, (7, 5)))

    def test_once_and_again(self):
        job = ("name", 5)
        told = (None, ((9, 1), (5, 1)), None, ((9, 2), (5, 2)), None, ((9, 1), (5, 1)), None, ((9, 3), (5, 2)))
        self.comes(1, job, told[:2], ("put", 1, (5, 2)))
        self.comes(1, job, told[:3], LOOK)
        self.comes(1, job, told[:4], ("put", 1, (5, 1)))
        self.comes(1, job, told[:5], LOOK)
        self.comes(1, job, told[:6], ("put", 1, (5, 2)))
        self.comes(1, job, told[:7], LOOK)
        self.ends(1, job, told, 2)

    def test_ids_in_any_order(self):
        for ids in permutations((-4, 0, 6, 11)):
            for hand in range(4):
                state = tuple((own, 1) for own in ids)
                rank = sorted(ids).index(ids[hand]) + 1
                self.comes(hand, ("name", ids[hand]), (None, state), ("put", hand, (ids[hand], rank + 1)))

    def test_one_s_own_place_counts_for_nothing(self):
        job = ("name", 7)
        for own in (0, (7, 1), (7, 2), (7, 9), (3, 1), (3, 2), (99, 3)):
            self.ends(0, job, (None, (own, (9, 2))), 1)
            self.comes(0, job, (None, (own, (9, 1))), ("put", 0, (7, 2)))
            self.comes(0, job, (None, (own, (3, 1))), ("put", 0, (7, 3)))
            self.ends(0, job, (None, (own, (3, 1)), None, (own, (3, 1))), 3)

    def test_the_number_put_last_counts(self):
        # 2 was put last; that others have 1 is nothing to it.
        self.ends(0, ("name", 7), (None, (0, (9, 1)), None, (0, (9, 1))), 2)
        self.comes(0, ("name", 7), (None, (0, (9, 1)), None, ((7, 1), (9, 2))), ("put", 0, (7, 1)))

    def test_values_without_a_second_are_nobody_s_number(self):
        for value in (0, 1, (), (1,), (9,)):
            self.ends(0, ("name", 7), (None, ((7, 1), value)), 1)
            self.comes(0, ("name", 7), (None, ((7, 1), value, (3, 1))), ("put", 0, (7, 3)))

    def test_all_told_of_three_hands(self):
        others = [0] + [(own, number) for own in (2, 8) for number in (1, 2, 3, 4)]
        states = [state for state in product((0, (5, 1)), others, others)
                  if 0 in state[1:] or state[1][0] != state[2][0]]
        for first in states:
            for second in states[::7]:
                numbers, answer = name_by_hand(0, 5, (first, second))
                told = (None, first, None, second)[:2 * len(numbers)]
                if answer is None:
                    told = (None, first, None, second)
                    self.comes(0, ("name", 5), told, ("put", 0, (5, numbers[2])))
                    self.comes(0, ("name", 5), told[:3], LOOK)
                    self.comes(0, ("name", 5), told[:2], ("put", 0, (5, numbers[1])))
                else:
                    self.ends(0, ("name", 5), told, answer)


class TestLeast(Course):
    def test_put_then_looks_that_wait(self):
        job = ("least", 5, 2)
        told = (None, (0, 0, 0), (0, (5,), 0), (0, (5,), 0), ((6,), (5,), 0))
        self.comes(1, job, (), ("put", 1, (5,)))
        for done in (1, 2, 3, 4):
            self.comes(1, job, told[:done], LOOK)
        self.ends(1, job, told, 5)

    def test_the_least_of_all_there(self):
        for numbers in permutations((4, -7, 0)):
            state = tuple((number,) for number in numbers)
            for hand in range(3):
                for wait in (1, 2, 3):
                    self.ends(hand, ("least", numbers[hand], wait), (None, state), -7)

    def test_noughts_and_below(self):
        self.ends(0, ("least", 0, 1), (None, ((0,), 0)), 0)
        self.comes(0, ("least", 0, 2), (None, ((0,), 0)), LOOK)
        self.ends(0, ("least", 0, 2), (None, ((0,), (0,))), 0)
        self.ends(0, ("least", 3, 2), (None, ((3,), (0,))), 0)
        self.ends(1, ("least", -2, 2), (None, ((-9,), (-2,), 0)), -9)
        self.comes(1, ("least", -2, 3), (None, ((-9,), (-2,), 0)), LOOK)

    def test_waits_from_one_to_all(self):
        for hands in range(1, 6):
            for there in range(hands + 1):
                state = tuple((10 - place,) for place in range(there)) + (0,) * (hands - there)
                for wait in range(1, hands + 1):
                    job = ("least", 10, wait)
                    if there >= wait:
                        self.ends(0, job, (None, (0,) * hands, state), 11 - there)
                    else:
                        self.comes(0, job, (None, (0,) * hands, state), LOOK)

    def test_one_s_own_may_be_lacking(self):
        self.ends(0, ("least", 1, 1), (None, (0, (8,))), 8)

    def test_many_looks(self):
        self.comes(0, ("least", 1, 2), (None,) + (((1,), 0),) * 30, LOOK)


def closer_by_hand(hand, number, states):
    """One's own numbers, worked out with Python's fractions."""
    own = [Fraction(number)]
    for state in states:
        count = len(own)
        there = [own[-1]]
        for place, value in enumerate(state):
            if place != hand and value != 0 and len(value) >= count:
                there.append(Fraction(value[count - 1][0], value[count - 1][1]))
        own.append((min(there) + max(there)) / 2)
    return tuple((number.numerator, number.denominator) for number in own)


class TestCloser(Course):
    def test_one_round(self):
        job = ("closer", 3, 1)
        self.comes(0, job, (), ("put", 0, ((3, 1),)))
        self.comes(0, job, (None,), LOOK)
        self.ends(0, job, (None, (((3, 1),), ((8, 1),))), (11, 2))
        self.ends(0, job, (None, (((3, 1),), ((5, 1),))), (4, 1))
        self.ends(0, job, (None, (((3, 1),), 0)), (3, 1))
        self.ends(0, job, (None, (((3, 1),), ((-3, 1),))), (0, 1))
        self.ends(0, job, (None, (((3, 1),), ((-8, 1),))), (-5, 2))

    def test_the_least_and_the_greatest_count(self):
        self.ends(1, ("closer", 4, 1), (None, (((9, 1),), ((4, 1),), ((-2, 1),), ((8, 1),))), (7, 2))
        self.ends(1, ("closer", 10, 1), (None, (((9, 1),), 0, ((8, 1),))), (9, 1))
        self.ends(1, ("closer", -10, 1), (None, (((9, 1),), 0, ((8, 1),))), (-1, 2))

    def test_all_rounds(self):
        job = ("closer", 0, 6)
        told = ()
        own = [(0, 1)]
        for r in range(1, 7):
            self.comes(0, job, told, ("put", 0, tuple(own)))
            told += (None,)
            self.comes(0, job, told, LOOK)
            told += ((tuple(own), tuple((1, 1) for _ in range(r))),)
            own.append((2 ** r - 1, 2 ** r))
        self.ends(0, job, told, (63, 64))

    def test_fewer_or_more_rounds_elsewhere(self):
        job = ("closer", 0, 3)
        first = (None, (((0, 1),), ((4, 1), (3, 1), (5, 2)), 0))
        self.comes(0, job, first, ("put", 0, ((0, 1), (2, 1))))
        second = first + (None, (((0, 1), (2, 1)), ((4, 1), (3, 1), (5, 2)), ((100, 1),)))
        self.comes(0, job, second, ("put", 0, ((0, 1), (2, 1), (5, 2))))
        third = second + (None, (0, ((4, 1), (3, 1)), ((100, 1), (50, 1), (-25, 2), (7, 1))))
        self.ends(0, job, third, (-5, 1))

    def test_one_s_own_counts_whatever_the_look_told(self):
        for own in (0, (), ((3, 1),), ((100, 1),), ((-100, 1), (50, 1))):
            self.ends(0, ("closer", 3, 1), (None, (own, ((5, 1),))), (4, 1))
            self.ends(0, ("closer", 3, 1), (None, (own, 0)), (3, 1))
            self.comes(0, ("closer", 3, 2), (None, (own, ((5, 1),))), ("put", 0, ((3, 1), (4, 1))))

    def test_below_nought_and_nine_figures(self):
        big = 10 ** 9 - 1
        self.ends(0, ("closer", -big, 1), (None, (0, ((big, 1),))), (0, 1))
        self.ends(0, ("closer", -big, 1), (None, (0, ((1 - big, 1),))), (1 - 2 * big, 2))
        self.ends(0, ("closer", big, 1), (None, (0, ((big - 1, 1),))), (2 * big - 1, 2))

    def test_many_told_in_lowest_terms(self):
        parts = ((0, 1), (1, 2), (-3, 4), (5, 1), (-7, 8), (9, 2))
        for number in (-2, 0, 3):
            for one, other in product(range(6), repeat=2):
                states = tuple((0, parts[:one], parts[:other][::-1]) for _ in range(4))
                expected = closer_by_hand(0, number, states)
                told = ()
                for r in range(4):
                    self.comes(0, ("closer", number, 4), told, ("put", 0, expected[:r + 1]))
                    told += (None, states[r])
                self.ends(0, ("closer", number, 4), told, expected[4])
                for top, bottom in expected:
                    self.assertEqual(gcd(top, bottom), 1)
                    self.assertGreater(bottom, 0)
