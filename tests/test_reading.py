import random

from tests.asking import Asking
from tests.oddities import ANYTHING
from tests.test_showing import drawn_case
from tests.textwords import read
from wholeglance.errors import GlanceError, NoText
from wholeglance.reading import read_case
from wholeglance.showing import show_case

MANNER, HANDS, WEAVE = "manner once 2", ("hand deeds put 0 5, look", "hand deeds look"), "weave 0 1"
ROWS = (MANNER,) + HANDS + (WEAVE,)
NOUGHTS = "\u0660"


class Refusing(Asking):
    def refused(self, row, text):
        for _ in range(2):
            with self.assertRaises(NoText) as taken:
                read_case(text)
            self.assertEqual(taken.exception.row, row, repr(text)[:200])
            self.assertIsInstance(taken.exception, GlanceError)

    def rows_refused(self, row, *rows):
        self.refused(row, "\n".join(rows))

    def bad_manner(self, text):
        self.rows_refused(0, text, *ROWS[1:])

    def bad_hand(self, text):
        for place in (1, 2):
            rows = ROWS[:place] + (text,) + ROWS[place + 1:]
            self.rows_refused(place, *rows)

    def bad_weave(self, text):
        self.rows_refused(3, *ROWS[:3], text)

    def no_case(self, *rows):
        self.rows_refused(len(rows), *rows)


class TestWhatIsRead(Refusing):
    def test_a_case(self):
        told = self.asked(read_case, "\n".join(ROWS))
        self.assertEqual(told, (("once", 2), (("deeds", (("put", 0, 5), ("look",))), ("deeds", (("look",),))), (0, 1)))

    def test_things_that_are_no_texts(self):
        for thing in ANYTHING + (ROWS, list(ROWS), "\n".join(ROWS).encode()):
            if not isinstance(thing, str):
                self.refused(0, thing)

    def test_texts_that_are_nothing_of_the_kind(self):
        for text in ("", " ", "\n", "\n\n", "x", "manner", "hand", "weave", "weave 0", "MANNER once 2", "\t", "once 2"):
            self.refused(0, text)


class TestOrder(Refusing):
    def test_a_row_too_early_or_too_late(self):
        self.rows_refused(0, HANDS[0], MANNER, HANDS[1], WEAVE)
        self.rows_refused(0, WEAVE, *ROWS)
        self.rows_refused(1, MANNER, MANNER, *ROWS[1:])
        self.rows_refused(2, MANNER, HANDS[0], MANNER, HANDS[1], WEAVE)
        self.rows_refused(4, *ROWS, MANNER)
        self.rows_refused(4, *ROWS, HANDS[0])
        self.rows_refused(4, *ROWS, WEAVE)
        self.rows_refused(3, MANNER, HANDS[0], WEAVE, HANDS[1])
        self.rows_refused(2, MANNER, WEAVE, *HANDS)
        self.rows_refused(4, *ROWS, "")
        self.rows_refused(1, MANNER, "", *ROWS[1:])
        self.rows_refused(0, "", *ROWS)

    def test_a_row_that_lacks(self):
        self.rows_refused(1, MANNER)
        self.rows_refused(2, MANNER, HANDS[0])
        self.rows_refused(3, MANNER, *HANDS)
        self.rows_refused(6, MANNER, *HANDS, *HANDS, HANDS[0])
        self.rows_refused(2, MANNER, WEAVE)
        self.rows_refused(3, MANNER, HANDS[0], WEAVE)
        self.rows_refused(5, MANNER, *HANDS, HANDS[1], WEAVE)

    def test_the_first_such_row_is_told(self):
        self.rows_refused(1, MANNER, "hand", "hand", "weave x", "weave")
        self.rows_refused(2, MANNER, HANDS[0], "", "hand")
        self.rows_refused(3, "manner once 9", *HANDS, "weave x")

    def test_other_ends_of_rows(self):
        for sign in ("\r\n", "\r", "\x0b", "\x0c", "\x1c", "\x85", "\u2028", "\u2029"):
            self.refused(0, sign.join(ROWS))
        self.refused(3, "\n".join(ROWS) + "\r")
        self.refused(3, "\n".join(ROWS) + " ")


class TestManners(Refusing):
    def test_words(self):
        for word in ("", "Once", "onces", "tables", "box", "own", "deeds", "2", "?", "()"):
            for numbers in ("", " 2", " 2 0", " 2 1 0"):
                self.bad_manner("manner " + word + numbers)
        for text in ("manner", "manner ", "once 2", "Manner once 2", "manners once 2", "mannertwice 2 0"):
            self.bad_manner(text)

    def test_numbers_left_out_or_more(self):
        for word, count in (("once", 1), ("twice", 2), ("handed", 3), ("signs", 4), ("shared", 5)):
            for given in range(8):
                if given != count:
                    self.bad_manner("manner " + word + " 2" * given)

    def test_how_numbers_are_written(self):
        for number in ("02", "+2", "-0", "-02", "00", "2.0", "2.", "", "-", "--2", "two", "0x2", "2_0", "1e1", "2,", "(2)", "?",
                       "1000000000000", "-1000000000000", "9" * 400, "2" + NOUGHTS, "\u00b2", "\uff12", "\u2212" + "2"):
            self.bad_manner("manner once " + number)
            self.bad_manner("manner twice 2 " + number)

    def test_blanks(self):
        for text in ("manner  once 2", "manner once  2", " manner once 2", "manner once 2 ", "manner\tonce 2", "manner once\u00a02"):
            self.bad_manner(text)

    def test_numbers_beyond_their_bounds_are_no_case(self):
        for row in ("manner once 0", "manner once 6", "manner once -2", "manner once 999999999999", "manner twice 2 1",
                    "manner twice 2 10", "manner handed 2 0 0", "manner handed 2 0 5", "manner signs 2 2 0 1",
                    "manner signs 2 0 -1 1", "manner shared 2 0 1 1 3", "manner shared 2 5 1 1 3"):
            self.no_case(row, *ROWS[1:])


class TestHands(Refusing):
    def test_words(self):
        for row in ("hand", "hand ", "hand x", "hand Deeds", "hand deed", "hand look", "hand put 0 5", "hand names 5",
                    "Hand deeds", "hands deeds", "hand  deeds", "hand deeds ", " hand deeds", "deeds look", "hand 5", "hand ?"):
            self.bad_hand(row)

    def test_deeds(self):
        for deeds in ("Look", "looks", "look,", "look, ", ", look", "look,look", "look look", "look , look", "look,  look",
                      "look; look", "look 0", "look ()", "put", "put 0", "put 0 ", "put  0 5", "put 0  5", "put 0 5 6", "put 0 5,",
                      "put x 5", "put 0 x", "put 0 ?", "put ? 5", "put (0) 5", "put () 5", "put 0 5 ", "Put 0 5", "put 0, 5",
                      "put 00 5", "put +0 5", "put -0 5", "put 0 05", "put 0 +5", "put 0 -0", "put 0 1000000000000",
                      "put 1000000000000 5", "put 0 -1000000000000", "put 0 5.0", "put 0 " + NOUGHTS, "put 0 -"):
            self.bad_hand("hand deeds " + deeds)
            self.bad_hand("hand deeds look, " + deeds)
            self.bad_hand("hand deeds " + deeds + ", look")

    def test_brackets(self):
        for value in ("(", ")", "(1", "1)", "((1)", "(1))", ")(", ")1(", "(1 2", "1 2", "( 1)", "(1 )", "(1  2)", "( )", "(1(2))",
                      "((1)2)", "(1)(2)", "(1) (2)", "(()())", "(1,2)", "[1]", "{1}", "(x)", "(?)", "(-)", "(-0)", "(01)",
                      "(1000000000000)", "(1) 2", "1 (2)", "() ()", "(() ", "(1 2))(", "\uff081)", "(1 -)", "()()", "-(1)", "+()",
                      "5 (1", "(1) (2", "5 (", "(1) (", "() (()"):
            self.bad_hand("hand deeds put 0 " + value)

    def test_brackets_however_deep(self):
        for deep in (4, 5, 60, 500, 3000, 50000):
            value = "(" * deep + "1" + ")" * deep
            self.no_case(MANNER, "hand deeds put 0 " + value, HANDS[1], WEAVE)
            self.no_case(MANNER, "hand deeds put 0 " + "(" * deep + ")" * deep, HANDS[1], WEAVE)
            self.no_case(MANNER, "hand deeds put 0 " + "(1 " * deep + "0" + ")" * deep, HANDS[1], WEAVE)
            self.bad_hand("hand deeds put 0 " + value + ")")
            self.bad_hand("hand deeds put 0 (" + value)
            self.bad_hand("hand deeds put 0 " + "(" * deep + ")" * (deep - 1))
        value = "(((1)) ((2 (3))))"
        self.no_case(MANNER, "hand deeds put 0 (" + value + ")", HANDS[1], WEAVE)

    def test_sums(self):
        for items in ("x", "??", "? ", " ?", "?  ?", "1,2", "(1)", "01", "+1", "-0", "1000000000000", "None", "-", "1 x", "? ?x", "-?"):
            self.bad_hand("hand sums " + items)

    def test_numbers_left_out_or_more(self):
        for word, count in (("name", 1), ("least", 2), ("closer", 2)):
            for given in range(6):
                if given != count:
                    self.bad_hand("hand " + word + " 1" * given)
            for wrong in ("x", "?", "01", "+1", "-0", "1000000000000", "(1)", "", "1.0"):
                self.bad_hand("hand " + word + " " + wrong + " 1" * (count - 1))
                self.bad_hand("hand " + word + " 1" * (count - 1) + " " + wrong)

    def test_numbers_beyond_their_bounds_are_no_case(self):
        for row in ("hand deeds put 1 5", "hand deeds put 2 5", "hand deeds put -1 5", "hand deeds put 999999999999 5",
                    "hand deeds put 0 (1 2 3 4 5 6 7 8 9)", "hand deeds put 0 ((((1))))", "hand deeds look" + ", look" * 12,
                    "hand deeds look" + ", put 0 1" * 500, "hand sums ?", "hand name 5", "hand least 1 1", "hand closer 1 1"):
            self.no_case(MANNER, row, HANDS[1], WEAVE)
        for rows in (("hand sums 1000000000", "hand sums"), ("hand sums" + " ?" * 9, "hand sums"), ("hand sums" + " 1" * 900, "hand sums"),
                     ("hand name 5", "hand name 5"), ("hand name 1000000000", "hand name 5"), ("hand least 1 0", "hand least 2 0"),
                     ("hand least 1 3", "hand least 2 3"), ("hand least 1 1", "hand least 2 2"), ("hand closer 1 0", "hand closer 2 0"),
                     ("hand closer 1 7", "hand closer 2 7"), ("hand closer 1 1", "hand closer 2 2"),
                     ("hand closer 999999999999 1", "hand closer 2 1"), ("hand name 5", "hand sums")):
            self.no_case(MANNER, *rows, WEAVE)
        self.no_case("manner shared 2 2 1 1 3", "hand sums", "hand sums", WEAVE)
        self.no_case("manner shared 2 2 1 1 3", "hand name 1", "hand name 2", WEAVE)

    def test_twelve_deeds_and_eight_items(self):
        for deeds in ("look" + ", look" * 11, "put 0 1" + ", put 0 (1)" * 11):
            self.assertEqual(len(read_case("\n".join((MANNER, "hand deeds " + deeds, HANDS[1], WEAVE)))[1][0][1]), 12)
        self.assertEqual(len(read_case("\n".join((MANNER, "hand sums" + " 1" * 8, "hand sums", WEAVE)))[1][0][1]), 8)


class TestWeaves(Refusing):
    def test_words(self):
        for row in ("Weave", "weaves", "weave ", " weave", "weave  0", "weave 0 ", "weave 0  1", "weave x", "weave 0,1", "weave ?",
                    "weave ()", "weave 00", "weave +0", "weave -0", "weave 01", "weave 1000000000000", "weave 0 1 x", "weave-", "weave0",
                    "weave\t0", "weave 0\t", "weave 0 1.", "weave " + NOUGHTS):
            self.bad_weave(row)

    def test_hands_that_are_not_there_are_no_case(self):
        for hands in ("2", "-1", "0 1 2", "5 0", "999999999999", "-999999999999"):
            self.no_case(*ROWS[:3], "weave " + hands)


class TestByWords(Refusing):
    SIGNS = " ,()-0123456789?\nlookputhandweavemanner+x\r\t\u0661"

    def told(self, text):
        try:
            return read_case(text)
        except NoText as refusal:
            return refusal.row

    def changed(self, chance, text):
        for _ in range(chance.choice((1, 1, 1, 2, 4))):
            place = chance.randrange(len(text) + 1)
            end = place + chance.choice((0, 0, 1, 1, 2, 5))
            text = text[:place] + chance.choice(("", chance.choice(self.SIGNS), chance.choice(self.SIGNS[:6]))) + text[end:]
        return text

    def test_drawn_texts_with_something_otherwise(self):
        chance = random.Random(252)
        found = []
        for _ in range(150):
            text = show_case(*drawn_case(chance))
            for _ in range(20):
                other = self.changed(chance, text)
                expected = read(other)
                self.assertEqual(self.told(other), expected, repr(other))
                found.append(isinstance(expected, tuple))
        self.assertIn(True, found)
        self.assertIn(False, found)

    def test_rows_exchanged_left_out_and_twice(self):
        chance = random.Random(253)
        for _ in range(300):
            rows = show_case(*drawn_case(chance)).split("\n")
            place = chance.randrange(len(rows))
            row = rows.pop(place)
            for other in (rows, rows[:place] + [row, row] + rows[place:], rows + [row], [row] + rows):
                self.assertEqual(self.told("\n".join(other)), read("\n".join(other)))
