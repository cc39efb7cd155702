import unittest
from fractions import Fraction
from itertools import permutations

from tests.atomic import all_rooms, answers, began, begun, done, given, woven_rooms

SEEDS = range(150)


def rooms_of(jobs):
    if len(jobs) < 4:
        return all_rooms(jobs)
    return [room for seed in SEEDS for room in woven_rooms(jobs, seed, 120)]


class TestSums(unittest.TestCase):
    def test_each_sum_stood_at_one_moment(self):
        job = (3, None, None, -5, None, 100, None)
        for hands in range(1, 6):
            jobs = tuple(("sums", tuple(item and item * (hand + 1) for item in job)) for hand in range(hands))
            for seed in SEEDS:
                rooms = woven_rooms(jobs, seed, 80)
                stood = [sum(state) for state, told in rooms]
                for found in given(jobs, rooms[-1]):
                    self.assertEqual(len(found), 4)
                    place = 0
                    for total in found:
                        place = stood.index(total, place)


class TestNames(unittest.TestCase):
    def check(self, ids):
        jobs = tuple(("name", own) for own in ids)
        most = 0
        for room in rooms_of(jobs):
            found = given(jobs, room)
            self.assertEqual(len(set(found)), len(found), room)
            for name in found:
                self.assertGreaterEqual(name, 1)
                self.assertLessEqual(name, 2 * began(room) - 1, room)
            most = max(most, len(found))
        self.assertEqual(most, len(ids))

    def test_unlike_and_small(self):
        self.check((5,))
        self.check((0, -4))
        self.check((-4, 0))
        for ids in permutations((7, 3, 5)):
            self.check(ids)
        self.check((9, 2, 4, 8))
        self.check((1, 2, 3, 4))
        self.check((5, 4, 3, 2, 1))
        self.check((30, -10, 20, 0, -40))


class TestLeasts(unittest.TestCase):
    def check(self, numbers, wait):
        jobs = tuple(("least", number, wait) for number in numbers)
        hands = len(numbers)
        most = 0
        for room in rooms_of(jobs):
            found = given(jobs, room)
            self.assertLessEqual(set(found), set(numbers))
            self.assertLessEqual(len(set(found)), hands - wait + 1)
            if began(room) < wait:
                self.assertEqual(found, [])
            most = max(most, len(found))
        self.assertEqual(most, hands)

    def test_handed_in_and_few(self):
        for numbers in ((5,), (0, 0), (3, -2), (7, 3, 5), (0, -1, 1), (4, 4, 4), (9, 8, 7, 6), (0, 1, 2, 3, 4)):
            for wait in range(1, len(numbers) + 1):
                self.check(numbers, wait)

    def test_a_hand_waits_where_others_stopped(self):
        jobs = (("least", 4, 2), ("least", 9, 2))
        room = begun(2)
        for _ in range(20):
            room = done(jobs, room, 0)
        self.assertEqual(answers(jobs, room), [None, None])
        room = done(jobs, done(jobs, room, 1), 0)
        self.assertEqual(answers(jobs, room), [4, None])


class TestClosers(unittest.TestCase):
    def check(self, numbers, rounds):
        jobs = tuple(("closer", number, rounds) for number in numbers)
        breadth = Fraction(max(numbers) - min(numbers), 2 ** rounds)
        most = 0
        for room in rooms_of(jobs):
            found = [Fraction(top, bottom) for top, bottom in given(jobs, room)]
            most = max(most, len(found))
            if found:
                self.assertGreaterEqual(min(found), min(numbers))
                self.assertLessEqual(max(found), max(numbers))
                self.assertLessEqual(max(found) - min(found), breadth)
        self.assertEqual(most, len(numbers))

    def test_within_and_close(self):
        self.check((5,), 6)
        for rounds in (1, 2, 3):
            self.check((7, -3), rounds)
            self.check((0, 1), rounds)
        for rounds in (1, 2):
            self.check((7, 3, -5), rounds)
            self.check((0, 10, 1), rounds)
        for rounds in (1, 2, 6):
            self.check((9, 0, -4, 2), rounds)
            self.check((10 ** 9 - 1, 1 - 10 ** 9, 0, 5, 5), rounds)


class TestAlone(unittest.TestCase):
    def test_a_hand_alone_ends(self):
        for job in (("sums", (1, None, 2)), ("name", 4), ("least", 4, 1), ("closer", 4, 6), ("deeds", (("look",),))):
            for hand in range(3):
                room = begun(3)
                jobs = (job,) * 3
                for _ in range(12):
                    room = done(jobs, room, hand) or room
                self.assertIsNotNone(answers(jobs, room)[hand])
