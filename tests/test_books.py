import random

from tests.asking import Asking
from tests.bookwords import book as book_by_words
from tests.bookwords import replayed, tells_wrong
from tests.samples import all_plain_manners
from tests.woven import drawn_deeds, drawn_jobs
from wholeglance.booklooks import shows_book, shows_break
from wholeglance.books import book
from wholeglance.rooms import begun, walked

LOOK = ("look",)


def put(place, value):
    return ("put", place, value)


def deeds(*rows):
    return tuple(("deeds", row) for row in rows)


TORN = deeds((LOOK,), (put(1, 5),), (put(2, 6),))


class TestBook(Asking):
    def holds_with(self, manner, jobs, weavings):
        """Told with enough rooms and with just as many, and open with one fewer."""
        rooms = tuple(walked(manner, jobs, weaving) for weaving in weavings)
        for most in (len(rooms), len(rooms) + 1, 10 ** 6):
            self.assertEqual(self.asked(book, manner, jobs, most), ("holds", rooms))
        for most in range(len(rooms)):
            self.assertEqual(self.asked(book, manner, jobs, most), ("open", None))

    def test_all_rooms_in_the_order_come_to(self):
        self.holds_with(("once", 1), deeds((put(0, 5), LOOK)), [(), (0,), (0, 0)])
        self.holds_with(("once", 2), deeds((put(0, 5),), (put(1, 6),)), [(), (0,), (1,), (0, 1)])
        self.holds_with(("once", 2), deeds((put(0, 5),), (LOOK,)), [
            (), (0,), (1,), (0, 1), (1, 0), (1, 1), (0, 1, 1), (1, 0, 1)])
        self.holds_with(("twice", 1, 0), deeds((LOOK,)), [(), (0,), (0, 0)])

    def test_rooms_that_are_alike_are_one(self):
        rooms = book(("once", 3), deeds((put(0, 1),), (put(1, 1),), (put(2, 1),)), 100)[1]
        self.assertEqual(len(rooms), 8)
        # Puts of what stands leave no trace in what a look under way keeps.
        rooms = book(("once", 2), deeds((LOOK,), (put(1, 0), put(1, 0))), 100)[1]
        self.assertEqual(len(rooms), 9)

    def test_no_step_can_be(self):
        for manner in all_plain_manners()[::7]:
            for jobs in (deeds(*((),) * manner[1]), (("sums", ()),) * manner[1]):
                if manner[0] == "shared" and jobs[0][0] == "sums":
                    continue
                for most in (0, 1, 2, 1000):
                    self.assertEqual(self.asked(book, manner, jobs, most), ("holds", (begun(manner, jobs),)))

    def test_most_of_nought_and_one(self):
        for manner in all_plain_manners()[::7]:
            jobs = deeds(*((LOOK,),) * manner[1])
            for most in (0, 1):
                self.assertEqual(self.asked(book, manner, jobs, most), ("open", None))

    def test_breaks(self):
        told = self.asked(book, ("once", 3), TORN, 10 ** 6)
        self.assertEqual(told[0], "breaks")
        self.assertTrue(shows_break(("once", 3), TORN, told[1]))
        self.assertTrue(tells_wrong(replayed(("once", 3), TORN, told[1]), told[1][-1]))

    def test_open_or_breaks_by_what_is_come_to_first(self):
        words = [book_by_words(("once", 3), TORN, most)[0] for most in range(40)]
        self.assertEqual([book(("once", 3), TORN, most)[0] for most in range(40)], words)
        self.assertIn("open", words)
        self.assertIn("breaks", words)

    def test_a_look_that_never_ends_is_open_or_not_by_its_rooms(self):
        # Each of the two puts may make the look collect once more, and no more than that.
        jobs = deeds((LOOK,), (put(1, 5), put(1, 6)))
        self.assertEqual(self.asked(book, ("twice", 2, 0), jobs, 10 ** 6)[0], "holds")
        waiting = (("least", 4, 2), ("least", 9, 2))
        for most in (3, 50, 300):
            self.assertEqual(self.asked(book, ("once", 2), waiting, most), ("open", None))

    def test_answers_that_do_not_fit_break(self):
        # Two hands take the third one's view of ahead of their looks, and so the same name, or numbers far apart.
        weaving = (2,) * 6 + (0,) * 7 + (1,) * 7 + (0,) * 3 + (1,) * 3 + (2,) + (0,) * 3 + (1,) * 3
        for jobs in ((("name", 7), ("name", 3), ("name", 5)), (("closer", 0, 1), ("closer", 8, 1), ("closer", 4, 1))):
            self.holds(shows_break, ("handed", 3, 0, 1), jobs, weaving)
            # No look ends with the next step, yet the answers behind it don't fit.
            self.holds(shows_break, ("handed", 3, 0, 1), jobs, weaving + (2,))
            self.fails(shows_break, ("handed", 3, 0, 1), jobs, weaving[:-1])


class TestByWords(Asking):
    def compared(self, manner, jobs, most):
        words = book_by_words(manner, jobs, most)
        told = self.asked(book, manner, jobs, most)
        self.assertEqual(told[0], words[0], (manner, jobs))
        if words[0] != "breaks":
            self.assertEqual(told, words)
            self.assertEqual(repr(told), repr(words))
        else:
            self.assertTrue(tells_wrong(replayed(manner, jobs, told[1]), told[1][-1]))
            self.holds(shows_break, manner, jobs, told[1])
        if words[0] == "holds":
            self.holds(shows_book, manner, jobs, told[1])
        return words[0]

    def test_drawn_jobs_of_up_to_three_hands(self):
        chance = random.Random(221)
        found = []
        for manner in all_plain_manners():
            if manner[1] <= 3 and chance.random() < 0.3:
                draw = chance.random()
                jobs = drawn_jobs(manner, chance) if draw < 0.5 else drawn_deeds(manner, chance, 2)
                found.append(self.compared(manner, jobs, chance.choice((10, 60, 60, 100))))
        for kind in ("holds", "open"):
            self.assertIn(kind, found)

    def test_jobs_of_other_words(self):
        for manner in (("once", 1), ("once", 2), ("twice", 1, 0), ("twice", 2, 3), ("handed", 1, 0, 2), ("signs", 1, 1, 1, 2)):
            numbers = (7, -2)[:manner[1]]
            for jobs in (tuple(("name", number) for number in numbers),
                         tuple(("least", number, 1) for number in numbers),
                         tuple(("closer", number, 1) for number in numbers),
                         tuple(("sums", (number, None)) for number in numbers)):
                self.compared(manner, jobs, 150)

    def test_manners_that_break(self):
        self.assertEqual(self.compared(("once", 3), TORN, 200), "breaks")
        jobs = deeds((LOOK,), (put(1, 1),), (put(2, 1), put(2, 2)))
        self.assertEqual(self.compared(("twice", 3, 2), jobs, 400), "breaks")
        jobs = deeds((put(0, 5), LOOK), (put(1, 7),))
        self.assertEqual(self.compared(("handed", 2, 0, 1), jobs, 400), "breaks")
        self.assertEqual(self.compared(("signs", 2, 1, 0, 1), jobs, 400), "breaks")
        jobs = deeds((put(0, 5), LOOK), (put(0, 7),))
        self.assertEqual(self.compared(("shared", 2, 1, 0, 0, 1), jobs, 400), "breaks")

    def test_manners_that_hold(self):
        self.assertEqual(self.compared(("handed", 2, 0, 2), deeds((LOOK,), (put(1, 1), put(1, 2))), 200), "holds")
        self.assertEqual(self.compared(("signs", 2, 0, 0, 1), deeds((LOOK,), (put(1, 1), LOOK)), 300), "holds")
        self.assertEqual(self.compared(("shared", 2, 1, 1, 0, 2), deeds((LOOK,), (put(0, 1),)), 300), "holds")
        self.assertEqual(self.compared(("once", 3), deeds((LOOK,), (put(1, 1),), ()), 200), "holds")
        self.assertEqual(self.compared(("signs", 2, 1, 1, 2), deeds((put(0, 1),), (put(1, 1),)), 300), "holds")
