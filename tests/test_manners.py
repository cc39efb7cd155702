from tests.asking import Asking
from tests.oddities import ANYTHING, NEITHER, nested, spoiled, with_part
from tests.samples import BOXES, HANDS, PLAIN, all_plain_manners, plain_manners, some_manners, tables
from wholeglance.manners import is_manner, places_of


class TestIsManner(Asking):
    def test_all_within_the_bounds(self):
        for manner in all_plain_manners():
            self.holds(is_manner, manner)
        for hands in HANDS:
            for boxes in BOXES:
                self.holds(is_manner, tables(hands, boxes))

    def test_each_number_beyond_its_bounds(self):
        for word, bounds in PLAIN.items():
            manner = plain_manners(word)[0]
            for place, allowed in enumerate(bounds):
                for number in list(range(-12, 13)) + [10 ** 13, -(10 ** 13)]:
                    asked = self.holds if number in allowed else self.fails
                    asked(is_manner, with_part(manner, 1 + place, number))

    def test_a_turn_of_one_is_none(self):
        self.fails(is_manner, ("twice", 2, 1))
        self.fails(is_manner, ("handed", 2, 1, 2))

    def test_truths_lists_and_other_kinds_in_the_place_of_parts(self):
        for word in PLAIN:
            for manner in (plain_manners(word)[0], plain_manners(word)[-1]):
                for wrong in spoiled(manner):
                    self.fails(is_manner, wrong)
                for place in range(len(manner)):
                    for thing in NEITHER[:4] + NEITHER[9:]:
                        self.fails(is_manner, with_part(manner, place, thing))
                    self.fails(is_manner, with_part(manner, place, nested(tuple, 59)))

    def test_a_part_more_or_fewer(self):
        for word in PLAIN:
            manner = plain_manners(word)[0]
            for length in range(len(manner)):
                self.fails(is_manner, manner[:length])
            for more in (0, 1, 2, None, (), True):
                self.fails(is_manner, manner + (more,))

    def test_numbers_of_another_word(self):
        for word in PLAIN:
            numbers = plain_manners(word)[0][1:]
            for other in list(PLAIN) + ["tables"]:
                if other != word:
                    self.fails(is_manner, (other,) + numbers)

    def test_words_that_are_none(self):
        for word in ("", "Once", "ONCE", "once ", " once", "thrice", "sign", "table", "onc", "hands", "turn"):
            for count in range(7):
                self.fails(is_manner, (word,) + (1,) * count)
                self.fails(is_manner, (word,) + (2,) * count)

    def test_things_of_any_kind(self):
        for thing in ANYTHING:
            self.fails(is_manner, thing)
            self.fails(is_manner, (thing,))
            self.fails(is_manner, (thing, 0))
        for number in (0, 1, 5, 10 ** 20):
            self.fails(is_manner, number)
        self.fails(is_manner, ())

    def test_texts_and_lists_are_no_manner(self):
        self.fails(is_manner, "o2")
        self.fails(is_manner, ["once", 2])
        self.fails(is_manner, (["once"], 2))
        self.fails(is_manner, ("once", "2"))
        self.fails(is_manner, ("once", True))


class TestPlacesOf(Asking):
    def test_of_each_word(self):
        for manner in all_plain_manners():
            expected = manner[2] if manner[0] == "shared" else manner[1]
            told = self.asked(places_of, manner)
            self.assertEqual(told, expected)
            self.assertIsInstance(told, int)

    def test_of_tables(self):
        for hands in HANDS:
            for boxes in BOXES:
                self.assertEqual(self.asked(places_of, tables(hands, boxes)), hands)

    def test_of_samples(self):
        self.assertEqual([places_of(manner) for manner in some_manners(3)], [3, 3, 3, 3, 3, 1, 4, 3])
