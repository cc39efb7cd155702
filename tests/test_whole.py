import random
from fractions import Fraction

from tests.asking import Asking
from tests.bookwords import replayed
from tests.orderwords import fits_order
from tests.rightwords import right
from tests.samples import all_plain_manners
from tests.woven import drawn_deeds, drawn_weaving
from wholeglance.booklooks import shows_break
from wholeglance.bounds import most_steps
from wholeglance.jobs import answer_of, is_jobs
from wholeglance.manners import places_of
from wholeglance.moments import moments
from wholeglance.orderlooks import shows_order
from wholeglance.orders import ordered
from wholeglance.rooms import walked
from wholeglance.stories import stood, story
from wholeglance.stories_told import MOST_ROWS

LOOK = ("look",)
RIGHT = [manner for manner in all_plain_manners() if right(manner)]


def drawn_of(word, manner, chance):
    hands = range(manner[1])
    if word == "sums":
        return tuple(("sums", tuple(chance.choice((None, chance.randint(-9, 9))) for _ in range(6))) for _ in hands)
    numbers = chance.sample(range(-50, 50), len(hands))
    if word == "name":
        return tuple(("name", number) for number in numbers)
    third = chance.randint(1, len(hands)) if word == "least" else chance.randint(1, 4)
    return tuple((word, number, third) for number in numbers)


class Right(Asking):
    def setUp(self):
        self.chance = random.Random(271)

    def woven(self, jobs, manner, most):
        """The weaving, its story, and the answers of the hands that have one."""
        self.assertTrue(is_jobs(manner, jobs))
        weaving = drawn_weaving(manner, jobs, self.chance, most)
        room = walked(manner, jobs, weaving)
        answers = {hand: answer_of(hand, job, room[1][hand][0]) for hand, job in enumerate(jobs)}
        given = {hand: answer for hand, answer in answers.items() if answer is not None}
        return weaving, story(manner, jobs, weaving), given

    def each(self, word, most):
        """Jobs of this word, woven in each right manner that has them."""
        for manner in RIGHT:
            if manner[0] != "shared":
                jobs = drawn_of(word, manner, self.chance)
                yield (manner, jobs) + self.woven(jobs, manner, most)


class TestMoments(Right):
    def test_looks_that_ended_have_moments_and_an_order_by_them(self):
        for manner in RIGHT:
            jobs = drawn_deeds(manner, self.chance, 7)
            weaving, rows, _ = self.woven(jobs, manner, 200)
            numbers = moments(manner, jobs, weaving)
            states = stood(manner, jobs, weaving)
            for (_, deed, begin, end, told), number in zip(rows, numbers):
                self.assertEqual(number is None, end is None, (manner, jobs, weaving))
                if end is not None and deed == LOOK:
                    earlier = [place for place in range(begin, end + 1) if states[place] == told]
                    self.assertEqual(number, earlier[0])
            ended = [place for place, row in enumerate(rows) if row[3] is not None]
            order = tuple(sorted(ended, key=lambda place: (numbers[place], rows[place][1] == LOOK, rows[place][2])))
            self.assertTrue(fits_order(places_of(manner), rows, order), (manner, jobs, weaving))
            self.assertIs(shows_order(places_of(manner), rows, order), True)
            if len(rows) <= MOST_ROWS:
                self.assertEqual(ordered(places_of(manner), rows)[0], "order")

    def test_no_step_tells_wrong(self):
        for manner in RIGHT[::2]:
            jobs = drawn_deeds(manner, self.chance, 6)
            weaving = drawn_weaving(manner, jobs, self.chance, 100)
            for end in range(0, len(weaving), 7):
                self.assertIs(shows_break(manner, jobs, weaving[:end]), False)

    def test_no_deed_takes_more_steps_than_told(self):
        for manner in all_plain_manners()[1::2]:
            jobs = drawn_deeds(manner, self.chance, 5)
            weaving, rows, _ = self.woven(jobs, manner, 250)
            for hand, deed, begin, end, _ in rows:
                most = most_steps(manner, deed[0])
                own = weaving[begin:end].count(hand)
                if most is not None:
                    self.assertLessEqual(own if end is not None else own + 1, most, (manner, jobs, weaving))


class TestBuiltOnLooks(Right):
    def test_each_sum_is_that_of_all_that_stood_at_one_moment(self):
        answered = 0
        for manner, jobs, weaving, rows, given in self.each("sums", 250):
            numbers = moments(manner, jobs, weaving)
            states = stood(manner, jobs, weaving)
            for hand, sums in given.items():
                at = [number for row, number in zip(rows, numbers) if row[0] == hand and row[1] == LOOK]
                self.assertEqual(sums, tuple(sum(states[number]) for number in at))
                answered += 1
        self.assertGreater(answered, 100)

    def test_names_are_unlike_and_small(self):
        answered = 0
        for manner, jobs, weaving, rows, given in self.each("name", 300):
            names = list(given.values())
            began = len({row[0] for row in rows})
            self.assertEqual(len(set(names)), len(names), (manner, jobs, weaving))
            for name in names:
                self.assertIn(name, range(1, 2 * began))
            answered += len(names)
        self.assertGreater(answered, 100)

    def test_leasts_are_handed_in_and_few(self):
        answered = 0
        for manner, jobs, weaving, rows, given in self.each("least", 200):
            leasts = set(given.values())
            self.assertLessEqual(leasts, {job[1] for job in jobs})
            self.assertLessEqual(len(leasts), manner[1] - jobs[0][2] + 1)
            answered += len(given)
        self.assertGreater(answered, 100)

    def test_closer_numbers_lie_within_and_close(self):
        answered = 0
        for manner, jobs, weaving, rows, given in self.each("closer", 300):
            numbers = [job[1] for job in jobs]
            breadth = Fraction(max(numbers) - min(numbers), 2 ** jobs[0][2])
            points = [Fraction(top, bottom) for top, bottom in given.values()]
            for one in points:
                self.assertTrue(min(numbers) <= one <= max(numbers))
                for other in points:
                    self.assertLessEqual(abs(one - other), breadth)
            answered += len(points)
        self.assertGreater(answered, 100)


class TestWovenByWords(Right):
    def test_stories_told_are_those_of_the_words(self):
        for manner in RIGHT[::6]:
            jobs = drawn_deeds(manner, self.chance, 6)
            weaving, rows, _ = self.woven(jobs, manner, 150)
            self.assertEqual(rows, replayed(manner, jobs, weaving).story())
