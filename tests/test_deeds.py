from tests.asking import Asking
from tests.oddities import ANYTHING, NEITHER, nested, spoiled, with_part
from tests.samples import HANDS, some_manners, tables
from wholeglance.deeds import is_deed
from wholeglance.manners import places_of

VALUES = (0, 1, -1, 10 ** 12 - 1, 1 - 10 ** 12, (), (1, 2), (((3,),),), (0,) * 8)
NO_VALUES = NEITHER + (10 ** 12, -(10 ** 12), (0,) * 9, nested(tuple, 4), nested(tuple, 59), (True,), (1, [2]), (None,))


class TestIsDeed(Asking):
    def test_looks(self):
        for hands in HANDS:
            for manner in some_manners(hands):
                for hand in range(hands):
                    self.holds(is_deed, manner, hand, ("look",))
                    for wrong in ("look", ["look"], ("look", 0), ("look", ()), ("look", None), ("looks",), ("Look",),
                                  (["look"],), (b"look",), (("look",),), ()):
                        self.fails(is_deed, manner, hand, wrong)

    def test_puts_at_each_place(self):
        for hands in HANDS:
            for manner in some_manners(hands):
                for hand in range(hands):
                    for place in range(-2, 8):
                        there = 0 <= place < places_of(manner)
                        allowed = there and (manner[0] == "shared" or place == hand)
                        asked = self.holds if allowed else self.fails
                        asked(is_deed, manner, hand, ("put", place, 1))

    def test_a_truth_as_a_place(self):
        for manner in some_manners(2):
            for hand in (0, 1):
                for place in (True, False):
                    self.fails(is_deed, manner, hand, ("put", place, 1))

    def test_values(self):
        for manner in some_manners(3)[:-1]:
            for value in VALUES:
                self.holds(is_deed, manner, 0, ("put", 0, value))
            for value in NO_VALUES:
                self.fails(is_deed, manner, 0, ("put", 0, value))

    def test_in_tables_only_one_is_put(self):
        manner = tables(3, 1)
        for hand in range(3):
            self.holds(is_deed, manner, hand, ("put", hand, 1))
            for value in (0, 2, -1, 10, (), (1,), ((1,),)) + NO_VALUES:
                self.fails(is_deed, manner, hand, ("put", hand, value))

    def test_in_shared_each_hand_puts_anywhere(self):
        for hands in HANDS:
            for places in (1, 2, 3, 4):
                manner = ("shared", hands, places, 1, 1, 3)
                for hand in range(hands):
                    for place in range(places):
                        self.holds(is_deed, manner, hand, ("put", place, (hand, place)))
                    self.fails(is_deed, manner, hand, ("put", places, 1))
                    self.fails(is_deed, manner, hand, ("put", -1, 1))

    def test_parts_and_words(self):
        for manner in some_manners(2):
            for wrong in (("put",), ("put", 0), ("put", 0, 1, 1), ("put", 0, 1, None), ["put", 0, 1], ("puts", 0, 1),
                          ("PUT", 0, 1), ("", 0, 1), ("look", 0, 1), (None, 0, 1), (0, "put", 1), ("put", 1, 0, 0),
                          ("put", "0", 1), ("put", None, 1), ("put", (0,), 1), ("put", 0.0, 1), ("write", 0, 1)):
                self.fails(is_deed, manner, 0, wrong)

    def test_things_of_any_kind(self):
        for manner in some_manners(2):
            for wrong in spoiled(("put", 0, 1)) + spoiled(("look",)):
                # A tuple is as good a value as a number, but in tables.
                right = repr(wrong) == "('put', 0, (1,))" and manner[0] != "tables"
                asked = self.holds if right else self.fails
                asked(is_deed, manner, 0, wrong)
            for thing in ANYTHING:
                self.fails(is_deed, manner, 0, thing)
                self.fails(is_deed, manner, 0, with_part(("put", 0, 1), 0, thing))
                self.fails(is_deed, manner, 0, with_part(("put", 0, 1), 1, thing))
                if repr(thing) != "'look'":
                    self.fails(is_deed, manner, 0, (thing,))
