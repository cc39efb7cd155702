import random

from tests.asking import Asking
from tests.bookwords import fits
from tests.samples import some_manners
from wholeglance.fitting import fit

LOOK = ("look",)


def room_of(*told, boxes=()):
    return (boxes, tuple((things, (), ()) for things in told))


def names(*ids):
    return tuple(("name", own) for own in ids)


def leasts(wait, *numbers):
    return tuple(("least", number, wait) for number in numbers)


def closers(rounds, *numbers):
    return tuple(("closer", number, rounds) for number in numbers)


class Fitting(Asking):
    def yes(self, jobs, *told):
        self.holds(fit, ("once", len(jobs)), jobs, room_of(*told))
        self.assertTrue(fits(jobs, told))

    def no(self, jobs, *told):
        self.fails(fit, ("once", len(jobs)), jobs, room_of(*told))
        self.assertFalse(fits(jobs, told))


class TestNames(Fitting):
    # Told by a hand of id 7, 3 or 5 at place 0, 1 or 2 where it answers at once, and where it is led to a third name.
    ONE = (None, ((7, 1), 0, 0))
    OTHER = (None, (0, (3, 1), 0))
    LAST = (None, (0, 0, (5, 1)))
    THREE = (None, ((7, 1), (3, 1), 0), None, ((7, 3), (3, 1), 0))
    FIVE = (None, ((7, 1), (3, 1), (5, 2)), None, ((7, 5), (3, 1), (5, 2)))

    def test_nobody_has_answered(self):
        self.yes(names(7, 3, 5), (), (), ())
        self.yes(names(7, 3, 5), (None,), (None,), (None,))
        self.yes(names(7, 3, 5), (None, ((7, 1), (3, 1), 0)), (), ())

    def test_unlike(self):
        self.yes(names(7, 3, 5), self.ONE, (), ())
        self.yes(names(7, 3, 5), self.ONE, (None,), ())
        self.no(names(7, 3, 5), self.ONE, self.OTHER, ())
        self.no(names(7, 3, 5), self.ONE, (None,), self.LAST)
        self.no(names(7, 3, 5), (), self.OTHER, self.LAST)
        self.yes(names(7, 3, 5), self.THREE, self.OTHER, ())

    def test_at_most_twice_those_that_told_anything_less_one(self):
        self.no(names(7, 3, 5), self.THREE, (), ())
        self.yes(names(7, 3, 5), self.THREE, (None,), ())
        self.yes(names(7, 3, 5), self.THREE, (), (None,))
        self.no(names(7, 3, 5), self.FIVE, (), ())
        self.no(names(7, 3, 5), self.FIVE, (None,), ())
        self.yes(names(7, 3, 5), self.FIVE, (None,), (None,))
        self.yes(names(7, 3, 5), self.FIVE, self.OTHER, (None,))

    def test_a_deed_under_way_has_told_nothing(self):
        rows = ((self.THREE, (), ()), ((), ((0, 0, (0, 0, 0)),), ()), ((), (), ()))
        self.fails(fit, ("handed", 3, 0, 2), names(7, 3, 5), ((), rows))


class TestLeasts(Fitting):
    def test_numbers_of_the_jobs(self):
        jobs = leasts(2, 5, 3, 9)
        self.yes(jobs, (), (), ())
        self.yes(jobs, (None, ((5,), 0, 0)), (None,), ())
        self.yes(jobs, (None, ((5,), (3,), 0)), (), ())
        self.yes(jobs, (None, ((9,), (9,), 0)), (), ())
        for other in (4, 0, -3, 8, 10):
            if other < 5:
                self.no(jobs, (None, ((5,), (other,), 0)), (), ())
            else:
                self.no(jobs, (None, ((other,), (other,), 0)), (), ())

    def test_at_most_hands_less_wait_and_one_more(self):
        three, five, nine = (None, (0, (3,), (3,))), (None, ((5,), (5,), 0)), (None, (0, (9,), (9,)))
        for told in ((three, three, three), (five, three, three), (five, five, three)):
            self.yes(leasts(2, 5, 3, 9), *told)
        self.no(leasts(2, 5, 3, 9), three, five, nine)
        self.yes(leasts(2, 5, 3, 9), three, five, (None,))
        full = [(None, ((number,), (number,), (number,))) for number in (5, 3, 9)]
        self.yes(leasts(3, 5, 3, 9), full[0], full[0], full[0])
        self.no(leasts(3, 5, 3, 9), full[0], full[1], full[0])
        self.yes(leasts(3, 5, 3, 9), full[0], (None,), ())
        self.yes(leasts(1, 5, 3, 9), full[0], full[1], full[2])


class TestClosers(Fitting):
    def test_within_the_numbers_of_the_jobs(self):
        jobs = closers(1, 0, 8)
        self.yes(jobs, (), ())
        self.yes(jobs, (None,), (None,))
        for value in range(0, 17):
            self.yes(jobs, (None, (0, ((value, 1),))), ())
            self.yes(jobs, (None, (0, ((value, 2),))), ())
        for value in (-1, -8, 17, 100):
            self.no(jobs, (None, (0, ((value, 1),))), ())
            self.no(jobs, (None, (0, ((value, 1000),))) if value < 0 else (None, (0, ((value, 1),))), ())

    def test_apart_by_at_most_the_difference_halved_rounds_times(self):
        # Hand 0 answers 0, 4 or what lies half way to what it saw; hand 1 likewise from 8 on.
        jobs = closers(1, 0, 8)
        alone = (None, (((0, 1),), 0))
        self.no(jobs, alone, (None, (0, ((8, 1),))))
        self.no(jobs, alone, (None, (((1, 1000),), ((8, 1),))))
        self.no(jobs, alone, (None, (((1, 1),), 0)))
        self.yes(jobs, alone, (None, (((0, 1),), ((8, 1),))))
        self.yes(jobs, (None, (0, ((1, 1),))), (None, (((1, 1),), 0)))
        self.yes(jobs, alone, (None,))

    def test_several_rounds(self):
        # Hand 0 answers 16; hand 1 has 32 behind its first round, and answers what lies half way to what it saw then.
        jobs = closers(2, 0, 64)
        first = (None, (0, 0), None, (0, ((64, 1), (32, 1))))

        def second(number):
            return (None, (((0, 1),), 0), None, (((0, 1), number), 0))

        for number in ((0, 1), (31, 1), (32, 1), (0, 7), (1, 3)):
            self.yes(jobs, first, second(number))
        for number in ((33, 1), (321, 10), (64, 1), (32001, 1000)):
            self.no(jobs, first, second(number))
        self.no(jobs, first, (None, (0, 0), None, (0, 0)))
        self.yes(jobs, first, (None, (0, 0), None))

    def test_all_numbers_alike(self):
        self.yes(closers(3, 5, 5), (None, (0, ((5, 1),))), ())
        told = (None, (0, 0), None, (0, 0), None, (0, 0))
        self.yes(closers(3, 5, 5), told, told)
        self.no(closers(1, 5, 5), (None, (0, ((6, 1),))), ())


class TestOthers(Fitting):
    def test_deeds_and_sums_always(self):
        jobs = (("deeds", (LOOK, LOOK)), ("deeds", ()))
        for told in ((), ((0, 0),), ((0, 0), (5, 7)), ((9, 9), (9, 9))):
            self.yes(jobs, told, ())
        jobs = (("sums", (1, None)), ("sums", (None,)))
        for told in ((), (None,), (None, (9, 9)), (None, (0, -7))):
            self.yes(jobs, told, ())
            self.yes(jobs, told, ((55, 4),))


class TestWhateverTheBoxesHave(Asking):
    def test_boxes_of_anything(self):
        told = (TestNames.ONE, TestNames.OTHER, ())
        other = (TestNames.THREE, TestNames.OTHER, ())
        for boxes in ((), (1, 2), None, ((("own", 0), 5),), "boxes", ((("own", 0), (7, 3)), (("own", 1), (3, 3)))):
            self.fails(fit, ("once", 3), names(7, 3, 5), room_of(*told, boxes=boxes))
            self.holds(fit, ("once", 3), names(7, 3, 5), room_of(*other, boxes=boxes))

    def test_of_every_manner(self):
        told = (TestNames.ONE, TestNames.OTHER, ())
        for manner in some_manners(3):
            if manner[0] not in ("shared", "tables"):
                self.fails(fit, manner, names(7, 3, 5), room_of(*told))
        for manner in some_manners(3):
            self.holds(fit, manner, (("deeds", (LOOK,)),) * 3, room_of((), ((1, 1, 1),), ()))


class TestByWords(Asking):
    def told(self, chance, value, looks):
        things = ()
        for number in range(chance.randint(0, 2 * looks)):
            things += (None,) if number % 2 == 0 else (tuple(value() for _ in range(3)),)
        return things

    def compared(self, chance, jobs, value, looks):
        told = tuple(self.told(chance, value, looks) for _ in range(3))
        expected = fits(jobs, told)
        self.assertIs(self.asked(fit, ("twice", 3, 0), jobs, room_of(*told)), expected, (jobs, told))
        return expected

    def test_drawn_rooms(self):
        chance = random.Random(201)
        found = []
        for _ in range(1500):
            jobs = names(*chance.sample((1, 2, 3, 4), 3))
            found.append(self.compared(chance, jobs, lambda: chance.choice((0, (chance.randint(1, 4), chance.randint(1, 3)))), 2))
            jobs = leasts(chance.randint(1, 3), 1, 2, chance.choice((2, 4)))
            found.append(self.compared(chance, jobs, lambda: chance.choice((0, (1,), (2,), (4,), (chance.randint(1, 5),))), 1))
            rounds = chance.randint(1, 3)
            jobs = closers(rounds, chance.randint(-3, 3), chance.randint(-3, 3), chance.randint(-3, 3))
            value = lambda: chance.choice((0, tuple((chance.randint(-4, 4), chance.randint(1, 3)) for _ in range(3))))
            found.append(self.compared(chance, jobs, value, rounds))
        for word in range(3):
            self.assertIn(True, found[word::3])
            self.assertIn(False, found[word::3])
