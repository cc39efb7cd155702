from tests.asking import Asking
from tests.rightwords import right
from tests.samples import HANDS, MOVES, TURNS, all_plain_manners, plain_manners
from wholeglance.rightness import is_right

BITS = ((0, 0), (0, 1), (1, 0), (1, 1))


class TestIsRight(Asking):
    def asked_of(self, expected, manner):
        self.assertIs(self.asked(is_right, manner), expected, manner)

    def test_all_of_one_hand(self):
        for manner in all_plain_manners():
            if manner[1] == 1:
                self.asked_of(True, manner)

    def test_once(self):
        for hands in HANDS:
            self.asked_of(hands <= 2, ("once", hands))

    def test_twice(self):
        for hands in (2, 3, 4, 5):
            for turn in TURNS:
                self.asked_of(hands == 2 or turn == 0, ("twice", hands, turn))

    def test_handed(self):
        for hands in (2, 3, 4, 5):
            for turn in TURNS:
                self.asked_of(False, ("handed", hands, turn, 1))
                for moves in (2, 3, 4):
                    self.asked_of(hands == 2 or turn == 0, ("handed", hands, turn, moves))

    def test_signs(self):
        for moves in MOVES:
            for hands in (3, 4, 5):
                for toggles, shakes in BITS:
                    self.asked_of(toggles == shakes == 1 and moves >= 2, ("signs", hands, toggles, shakes, moves))
            self.asked_of(True, ("signs", 2, 0, 0, moves))
            for toggles, shakes in BITS[1:]:
                self.asked_of(moves >= 2, ("signs", 2, toggles, shakes, moves))

    def test_shared_of_one_place(self):
        for hands in (2, 3, 4, 5):
            for toggles in (0, 1):
                for moves in MOVES:
                    self.asked_of(moves >= 2, ("shared", hands, 1, toggles, 0, moves))
                    self.asked_of(moves >= 3, ("shared", hands, 1, toggles, 1, moves))

    def test_shared_of_more_places(self):
        for places in (2, 3, 4):
            for moves in MOVES:
                for hands in (2, 3, 4, 5):
                    for toggles in (0, 1):
                        self.asked_of(False, ("shared", hands, places, toggles, 0, moves))
                    self.asked_of(moves >= 3, ("shared", hands, places, 1, 1, moves))
                    self.asked_of(moves >= 3 and hands == 2, ("shared", hands, places, 0, 1, moves))

    def test_every_manner_by_words(self):
        for manner in all_plain_manners():
            self.asked_of(right(manner), manner)

    def test_how_many_of_each_word(self):
        counts = {word: len([manner for manner in plain_manners(word) if is_right(manner)])
                  for word in ("once", "twice", "handed", "signs", "shared")}
        self.assertEqual(counts, {"once": 2, "twice": 21, "handed": 72, "signs": 38, "shared": 134})
