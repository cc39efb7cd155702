from tests.asking import Asking
from tests.oddities import ANYTHING, Agreeing, Refusing, nested, spoiled, with_part
from tests.samples import HANDS, some_manners, tables
from wholeglance.jobs import is_jobs

NINES = 10 ** 9 - 1
LOOK = ("look",)
# Numbers that a job's number may be, and things that it may not.
NUMBERS = (0, 1, -1, NINES, -NINES)
NO_NUMBERS = (10 ** 9, -(10 ** 9), 10 ** 12, True, False, None, "1", 1.0, (1,), [1], (), Agreeing(), Refusing())


def plain(hands):
    """Manners in which every job may be."""
    return [manner for manner in some_manners(hands) if manner[0] not in ("shared", "tables")]


def each_word(hands):
    """Jobs of each word."""
    return [
        tuple(("deeds", (("put", hand, 1), LOOK)) for hand in range(hands)),
        tuple(("sums", (hand, None)) for hand in range(hands)),
        tuple(("name", 100 - hand) for hand in range(hands)),
        tuple(("least", 7, 1) for hand in range(hands)),
        tuple(("closer", hand, 3) for hand in range(hands)),
    ]


class TestIsJobs(Asking):
    def test_each_word(self):
        for hands in HANDS:
            for manner in plain(hands):
                for jobs in each_word(hands):
                    self.holds(is_jobs, manner, jobs)

    def test_in_shared_and_tables_only_deeds(self):
        for hands in HANDS:
            for manner in (("shared", hands, 2, 1, 1, 3), ("shared", hands, 1, 0, 0, 1), tables(hands, 2)):
                jobs = each_word(hands)
                self.holds(is_jobs, manner, (("deeds", (LOOK,)),) * hands)
                self.holds(is_jobs, manner, (("deeds", ()),) * hands)
                for other in jobs[1:]:
                    self.fails(is_jobs, manner, other)

    def test_a_hand_more_or_fewer(self):
        for hands in HANDS:
            for manner in plain(hands):
                for count in range(8):
                    asked = self.holds if count == hands else self.fails
                    asked(is_jobs, manner, tuple(("name", k) for k in range(count)))
                    asked(is_jobs, manner, (("deeds", ()),) * count)
                    asked(is_jobs, manner, (("sums", ()),) * count)
        for manner in some_manners(2):
            self.fails(is_jobs, manner, ())
            self.fails(is_jobs, manner, ("deeds", ()))

    def test_words_are_alike(self):
        for hands in (2, 3, 5):
            for manner in plain(hands):
                words = each_word(hands)
                for one in words:
                    for other in words:
                        for hand in range(hands):
                            asked = self.holds if one is other else self.fails
                            asked(is_jobs, manner, with_part(one, hand, other[hand]))

    def test_at_most_twelve_deeds(self):
        for manner in some_manners(2):
            for deed in (LOOK, ("put", 1, 1)):
                if deed == LOOK or manner[0] != "shared" or manner[2] > 1:
                    for count in (0, 1, 11, 12):
                        self.holds(is_jobs, manner, (("deeds", ()), ("deeds", (deed,) * count)))
                for count in (13, 14, 40):
                    self.fails(is_jobs, manner, (("deeds", ()), ("deeds", (deed,) * count)))
                    self.fails(is_jobs, manner, (("deeds", (LOOK,) * count), ("deeds", ())))

    def test_deeds_are_those_of_the_hand(self):
        for manner in plain(2) + [tables(2, 1)]:
            self.holds(is_jobs, manner, (("deeds", (("put", 0, 1),)), ("deeds", (("put", 1, 1),))))
            self.fails(is_jobs, manner, (("deeds", (("put", 1, 1),)), ("deeds", ())))
            self.fails(is_jobs, manner, (("deeds", ()), ("deeds", (("put", 0, 1),))))
            self.fails(is_jobs, manner, (("deeds", ()), ("deeds", (LOOK, ("put", 2, 1)))))
        shared = ("shared", 2, 2, 1, 1, 3)
        self.holds(is_jobs, shared, (("deeds", (("put", 1, 1),)), ("deeds", (("put", 0, (1, 2)), LOOK))))
        self.fails(is_jobs, shared, (("deeds", (("put", 2, 1),)), ("deeds", ())))
        self.fails(is_jobs, tables(2, 1), (("deeds", (("put", 0, 2),)), ("deeds", ())))
        self.fails(is_jobs, tables(2, 1), (("deeds", (("put", 0, True),)), ("deeds", ())))

    def test_numbers_of_deeds_may_have_twelve_figures(self):
        self.holds(is_jobs, ("once", 1), (("deeds", (("put", 0, 10 ** 12 - 1),)),))
        self.fails(is_jobs, ("once", 1), (("deeds", (("put", 0, 10 ** 12),)),))

    def test_at_most_eight_items(self):
        for manner in plain(2):
            for item in (0, -5, None):
                for count in range(9):
                    self.holds(is_jobs, manner, (("sums", ()), ("sums", (item,) * count)))
                for count in (9, 10, 30):
                    self.fails(is_jobs, manner, (("sums", ()), ("sums", (item,) * count)))
                    self.fails(is_jobs, manner, (("sums", (item,) * count), ("sums", ())))

    def test_numbers_have_at_most_nine_figures(self):
        for manner in plain(2):
            for number in NUMBERS:
                self.holds(is_jobs, manner, (("sums", (None, number)), ("sums", (number, None))))
                self.holds(is_jobs, manner, (("name", 5), ("name", number)))
                self.holds(is_jobs, manner, (("least", 5, 2), ("least", number, 2)))
                self.holds(is_jobs, manner, (("closer", number, 6), ("closer", 5, 6)))
            for wrong in NO_NUMBERS:
                if wrong is not None:
                    self.fails(is_jobs, manner, (("sums", (None, wrong)), ("sums", ())))
                    self.fails(is_jobs, manner, (("sums", ()), ("sums", (1, wrong, 2))))
                self.fails(is_jobs, manner, (("name", 5), ("name", wrong)))
                self.fails(is_jobs, manner, (("name", wrong), ("name", 5)))
                self.fails(is_jobs, manner, (("least", 5, 2), ("least", wrong, 2)))
                self.fails(is_jobs, manner, (("closer", wrong, 6), ("closer", 5, 6)))

    def test_ids_are_unlike(self):
        for manner in plain(3):
            self.holds(is_jobs, manner, (("name", 3), ("name", -3), ("name", 0)))
            for ids in ((4, 4, 5), (4, 5, 4), (5, 4, 4), (4, 4, 4), (0, 0, 1)):
                self.fails(is_jobs, manner, tuple(("name", number) for number in ids))

    def test_numbers_but_ids_may_be_alike(self):
        for manner in plain(3):
            self.holds(is_jobs, manner, (("least", 4, 2),) * 3)
            self.holds(is_jobs, manner, (("closer", 4, 2),) * 3)
            self.holds(is_jobs, manner, (("sums", (4, 4, None, None)),) * 3)

    def test_waits(self):
        for hands in HANDS:
            for manner in plain(hands):
                for wait in range(-2, 9):
                    asked = self.holds if 1 <= wait <= hands else self.fails
                    asked(is_jobs, manner, (("least", 3, wait),) * hands)
                for wait in (True, None, "1", 1.0, (1,), [1], Agreeing(), Refusing()):
                    self.fails(is_jobs, manner, (("least", 3, wait),) * hands)

    def test_rounds(self):
        for hands in HANDS:
            for manner in plain(hands):
                for rounds in range(-2, 12):
                    asked = self.holds if 1 <= rounds <= 6 else self.fails
                    asked(is_jobs, manner, (("closer", 3, rounds),) * hands)
                for rounds in (True, None, "1", 1.0, (1,), [1], Agreeing(), Refusing()):
                    self.fails(is_jobs, manner, (("closer", 3, rounds),) * hands)

    def test_waits_and_rounds_are_the_same_for_all(self):
        for manner in plain(3):
            for waits in ((1, 1, 2), (1, 2, 1), (2, 1, 1), (1, 2, 3)):
                self.fails(is_jobs, manner, tuple(("least", 3, wait) for wait in waits))
                self.fails(is_jobs, manner, tuple(("closer", 3, rounds) for rounds in waits))

    def test_parts_and_words(self):
        for manner in plain(1) + [("shared", 1, 1, 1, 1, 3), tables(1, 1)]:
            for job in (("deeds",), ("deeds", (), ()), ("sums",), ("sums", (), 1), ("name",), ("name", 1, 1),
                        ("least", 1), ("least", 1, 1, 1), ("closer", 1), ("closer", 1, 1, 1), ("least",), ("closer",),
                        ("deed", ()), ("Deeds", ()), ("names", 1), ("sum", ()), ("look",), ("put", 0, 1), ("", ()),
                        (None, ()), ((), ()), (["deeds"], ()), ("least", None, 1), ("deeds", LOOK), ("deeds", None),
                        ("deeds", [LOOK]), ("sums", [1]), ("sums", None), ("sums", 1), ("deeds", (None,)), ()):
                self.fails(is_jobs, manner, (job,))

    def test_other_kinds_at_any_depth(self):
        # A put's value may be a tuple too, and an item None.
        right = {
            repr((("deeds", (("put", 0, (1,)), LOOK)), ("deeds", (("put", 1, 1), LOOK)))),
            repr((("deeds", (("put", 0, 1), LOOK)), ("deeds", (("put", 1, (1,)), LOOK)))),
            repr((("sums", (None, None)), ("sums", (1, None)))), repr((("sums", (0, None)), ("sums", (None, None)))),
        }
        for manner in plain(2):
            for jobs in each_word(2):
                for thing in spoiled(jobs):
                    asked = self.holds if repr(thing) in right else self.fails
                    asked(is_jobs, manner, thing)

    def test_things_of_any_kind(self):
        for manner in some_manners(2):
            for thing in ANYTHING + (0, 1, (), nested(tuple, 60)):
                self.fails(is_jobs, manner, thing)
                self.fails(is_jobs, manner, (thing, thing))
                self.fails(is_jobs, manner, (("deeds", ()), thing))
                self.fails(is_jobs, manner, (thing, ("name", 1)))
                if repr(thing) not in ("()", "(('look',),)"):
                    self.fails(is_jobs, manner, (("deeds", thing), ("deeds", ())))
                self.fails(is_jobs, manner, (("deeds", ()), ("deeds", (thing,))))
