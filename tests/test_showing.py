import random

from tests.asking import Asking
from tests.samples import all_plain_manners
from tests.textwords import read
from tests.woven import drawn_jobs
from wholeglance.reading import read_case
from wholeglance.showing import show_case

LOOK = ("look",)


def put(place, value):
    return ("put", place, value)


def drawn_value(chance, deep):
    if deep == 0 or chance.random() < 0.6:
        return chance.choice((0, 1, -1, 7, 10 ** 12 - 1, 1 - 10 ** 12, 10, -120))
    return tuple(drawn_value(chance, deep - 1) for _ in range(chance.choice((0, 1, 2, 3, 8))))


def drawn_case(chance):
    manner = chance.choice(all_plain_manners())
    jobs = drawn_jobs(manner, chance)
    if jobs[0][0] == "deeds":
        jobs = tuple(("deeds", tuple(deed if deed == LOOK else put(deed[1], drawn_value(chance, 3)) for deed in job[1]))
                     for job in jobs)
    weaving = tuple(chance.randrange(manner[1]) for _ in range(chance.choice((0, 1, 5, 30))))
    return manner, jobs, weaving


class TestShowCase(Asking):
    def shown(self, case, *rows):
        text = "\n".join(rows)
        self.assertEqual(self.asked(show_case, *case), text)
        self.assertEqual(self.asked(read_case, text), case)
        self.assertEqual(repr(read_case(text)), repr(case))

    def test_each_manner(self):
        for manner, row in ((("once", 1), "manner once 1"), (("twice", 1, 0), "manner twice 1 0"),
                            (("handed", 1, 9, 4), "manner handed 1 9 4"), (("signs", 1, 0, 1, 2), "manner signs 1 0 1 2"),
                            (("shared", 1, 4, 1, 0, 3), "manner shared 1 4 1 0 3")):
            self.shown((manner, (("deeds", (LOOK,)),), ()), row, "hand deeds look", "weave")

    def test_deeds(self):
        jobs = (("deeds", (LOOK, put(0, 5), LOOK)), ("deeds", ()), ("deeds", (put(2, -7),)))
        self.shown((("once", 3), jobs, (0, 2, 0)), "manner once 3", "hand deeds look, put 0 5, look", "hand deeds",
                   "hand deeds put 2 -7", "weave 0 2 0")

    def test_values(self):
        for value, text in ((0, "0"), (-1, "-1"), (10 ** 12 - 1, "999999999999"), (1 - 10 ** 12, "-999999999999"),
                            ((), "()"), ((1,), "(1)"), ((1, 2, (3,)), "(1 2 (3))"), (((),), "(())"), (((), ()), "(() ())"),
                            ((((),), (), ((-5, 0), 2)), "((()) () ((-5 0) 2))"), ((0,) * 8, "(0 0 0 0 0 0 0 0)")):
            self.shown((("once", 1), (("deeds", (put(0, value), LOOK)),), ()),
                       "manner once 1", "hand deeds put 0 " + text + ", look", "weave")

    def test_sums(self):
        jobs = (("sums", (None, 3, -4, None)), ("sums", ()))
        self.shown((("twice", 2, 3), jobs, (1, 1, 0)), "manner twice 2 3", "hand sums ? 3 -4 ?", "hand sums", "weave 1 1 0")
        self.shown((("once", 1), (("sums", (None,) * 8),), ()), "manner once 1", "hand sums ? ? ? ? ? ? ? ?", "weave")

    def test_other_jobs(self):
        self.shown((("once", 2), (("name", 7), ("name", -3)), ()), "manner once 2", "hand name 7", "hand name -3", "weave")
        self.shown((("once", 2), (("least", 0, 2), ("least", 9, 2)), ()),
                   "manner once 2", "hand least 0 2", "hand least 9 2", "weave")
        self.shown((("once", 1), (("closer", 999999999, 6),), (0, 0)),
                   "manner once 1", "hand closer 999999999 6", "weave 0 0")

    def test_weavings_that_can_not_be_walked(self):
        self.shown((("once", 2), (("deeds", ()), ("deeds", ())), (0, 1, 1)),
                   "manner once 2", "hand deeds", "hand deeds", "weave 0 1 1")

    def test_drawn_cases_are_read_as_they_were(self):
        chance = random.Random(251)
        for _ in range(300):
            case = drawn_case(chance)
            text = self.asked(show_case, *case)
            self.assertEqual(self.asked(read_case, text), case)
            self.assertEqual(repr(read_case(text)), repr(case))
            self.assertEqual(read(text), case)
            self.assertEqual(show_case(*read_case(text)), text)
