import random

from tests.asking import Asking
from tests.bookwords import replayed, tells_wrong
from tests.oddities import ANYTHING
from tests.orderwords import closure
from tests.rightwords import right
from tests.samples import all_plain_manners
from tests.test_showing import drawn_value
from tests.woven import Woven, drawn_jobs, drawn_weaving
from wholeglance.books import book
from wholeglance.bounds import most_steps
from wholeglance.desk import Desk
from wholeglance.errors import GlanceError, NoLine, NoStep, NoText
from wholeglance.jobs import answer_of
from wholeglance.manners import places_of
from wholeglance.moments import moments
from wholeglance.showing import show_case

CASE = "manner once 2\nhand deeds put 0 5, look\nhand deeds put 1 (1 (2)), put 1 -3\nweave 1 0"
ASKING = ("hands", "state", "told", "answers", "moments", "order", "right", "most", "case", "box own 0", "book 50")


def text_of(*rows):
    return "\n".join(rows)


class Desks(Asking):
    def says(self, desk, *pairs):
        """Lines and their answers in turn."""
        for line, answer in pairs:
            self.assertEqual(desk.say(line), answer, line)

    def refused(self, desk, line):
        before = [desk.say(asked) for asked in ASKING]
        with self.assertRaises(NoLine) as taken:
            desk.say(line)
        self.assertIsInstance(taken.exception, GlanceError)
        self.assertEqual([desk.say(asked) for asked in ASKING], before)


class TestSteps(Desks):
    def test_run(self):
        desk = Desk(CASE)
        self.says(desk, ("run 0 0", "done 0"), ("run 0 1", "done 1"), ("told", "-; -"), ("run 0 5", "done 1"),
                  ("told", "- (5 (1 (2))); -"), ("run 0 5", "done 0"), ("run 1 1000", "done 1"), ("run 1 0", "done 0"),
                  ("hands", "-"), ("case", CASE[:-9] + "weave 1 0 0 0 1"))

    def test_step(self):
        desk = Desk(CASE)
        self.says(desk, ("step 1", "done 1"), ("step 1", "done 0"), ("step 0", "done 1"), ("case", CASE + " 1 0"))

    def test_a_run_as_long_as_may_be(self):
        desk = Desk(text_of("manner once 2", "hand least 4 2", "hand least 9 2", "weave"))
        self.says(desk, ("run 0 1000", "done 1000"), ("step 1", "done 1"), ("run 0 1000", "done 1"), ("answers", "4; -"))

    def test_back(self):
        desk = Desk(CASE)
        self.says(desk, ("state", "(5 (1 (2)))"), ("back", "done"), ("state", "(0 (1 (2)))"), ("back", "done"),
                  ("state", "(0 0)"), ("back", "none"), ("back", "none"), ("case", CASE[:-4]), ("step 0", "done 1"),
                  ("state", "(5 0)"), ("back", "done"), ("hands", "0 1"), ("run 1 2", "done 2"), ("back", "done"),
                  ("case", CASE[:-2]))

    def test_two_desks_go_each_by_itself(self):
        one, other = Desk(CASE), Desk(CASE)
        one.say("run 0 9")
        self.says(other, ("case", CASE), ("back", "done"), ("case", CASE[:-2]))
        self.says(one, ("case", CASE + " 0 0"))
        self.says(Desk(CASE), ("case", CASE))


class TestAsking(Desks):
    def test_hands(self):
        rows = ("manner once 3", "hand deeds look", "hand deeds", "hand deeds put 2 1")
        self.says(Desk(text_of(*rows, "weave")), ("hands", "0 2"))
        self.says(Desk(text_of(*rows, "weave 2")), ("hands", "0"))
        self.says(Desk(text_of(*rows, "weave 0 0 0")), ("hands", "2"))
        self.says(Desk(text_of(*rows, "weave 0 0 0 2")), ("hands", "-"))

    def test_state_and_told(self):
        desk = Desk(text_of("manner shared 2 1 1 0 2", "hand deeds put 0 (), look", "hand deeds", "weave"))
        self.says(desk, ("state", "(0)"), ("told", ".; ."), ("run 0 4", "done 4"), ("state", "(())"), ("told", "-; ."),
                  ("run 0 2", "done 2"), ("told", "- (()); ."))

    def test_boxes(self):
        self.says(Desk(CASE), ("box own 0", "5"), ("box own 1", "(1 (2))"))
        desk = Desk(text_of("manner signs 2 1 1 2", "hand deeds put 0 5", "hand deeds", "weave"))
        self.says(desk, ("box own 0", "(0 (0 0) 0 (0 0))"), ("box sign 0 1", "0"), ("box sign 1 0", "0"), ("run 0 50", "done 8"),
                  ("box own 0", "(5 (0 1) 1 (0 0))"), ("back", "done"), ("box own 0", "(0 (0 0) 0 (0 0))"))
        desk = Desk(text_of("manner shared 2 2 1 1 3", "hand deeds put 1 5", "hand deeds", "weave"))
        self.says(desk, ("run 0 50", "done 11"), ("box box 1", "(5 0 1)"), ("box box 0", "(0 -1 0)"), ("box view 0", "(0 0)"),
                  ("box call 0 1", "1"), ("box call 1 0", "0"), ("box sign 0 1", "0"), ("box view 1", "(0 0)"))

    def test_boxes_that_are_not_there(self):
        desk = Desk(CASE)
        for words in ("", " ", " own", " own 2", " own -1", " own 00", " own +0", " own 0 0", " own x", " 0", " own ", " own 0 ", "  own 0",
                      " Own 0", " box 0", " sign 0 1", " view 0", " own (0)", " own ?", " own 1000000000000", " own 0,", " ()"):
            self.refused(desk, "box" + words)
        desk = Desk(text_of("manner signs 2 1 1 2", "hand deeds", "hand deeds", "weave"))
        for words in (" sign 0 0", " sign 1 1", " sign 0", " sign 0 2", " call 0 1", " sign 0 1 0"):
            self.refused(desk, "box" + words)
        self.refused(Desk(text_of("manner signs 2 1 0 2", "hand deeds", "hand deeds", "weave")), "box sign 0 1")

    def test_answers(self):
        self.says(Desk(CASE), ("answers", "-; -"), ("run 0 9", "done 2"), ("answers", "(); -"), ("back", "done"), ("answers", "-; -"))
        desk = Desk(text_of("manner once 2", "hand sums 4 ? -9 ?", "hand sums ", "weave").replace("sums \n", "sums\n"))
        self.says(desk, ("answers", "-; ()"), ("run 0 9", "done 6"), ("answers", "(4 -5); ()"))
        desk = Desk(text_of("manner once 2", "hand name 7", "hand name 3", "weave 0 1"))
        self.says(desk, ("run 0 9", "done 5"), ("answers", "3; -"), ("run 1 9", "done 2"), ("answers", "3; 1"))
        desk = Desk(text_of("manner once 2", "hand closer 7 1", "hand closer 2 1", "weave 0 1 1 1"))
        self.says(desk, ("answers", "-; (9 2)"), ("run 0 2", "done 2"), ("answers", "(9 2); (9 2)"))
        desk = Desk(text_of("manner once 1", "hand least -7 1", "weave"))
        self.says(desk, ("answers", "-"), ("run 0 9", "done 2"), ("answers", "-7"))

    def test_moments(self):
        desk = Desk(text_of("manner once 3", "hand deeds look", "hand deeds put 1 5", "hand deeds put 2 6", "weave"))
        self.says(desk, ("moments", "."), ("step 0", "done 1"), ("moments", "-"), ("step 0", "done 1"), ("step 1", "done 1"),
                  ("moments", "- 3"), ("step 2", "done 1"), ("step 0", "done 1"), ("moments", "- 3 4"), ("order", "no"),
                  ("back", "done"), ("order", "yes"), ("moments", "- 3 4"))

    def test_order(self):
        self.says(Desk(CASE), ("order", "yes"))
        rows = ("manner once 2", "hand deeds look" + ", look" * 11, "hand deeds put 1 1, put 1 2, put 1 3")
        desk = Desk(text_of(*rows, "weave"))
        self.says(desk, ("order", "yes"), ("run 0 24", "done 24"), ("order", "yes"), ("run 1 2", "done 2"), ("order", "yes"),
                  ("step 1", "done 1"), ("right", "yes"))
        self.refused_order(desk)
        self.says(desk, ("back", "done"), ("order", "yes"), ("right", "yes"))

    def refused_order(self, desk):
        case = desk.say("case")
        with self.assertRaises(NoLine):
            desk.say("order")
        self.says(desk, ("case", case))

    def test_right_and_most(self):
        for row, yes, most in (("manner once 2", "yes", "1 2"), ("manner once 3", "no", "1 3"), ("manner twice 2 0", "yes", "1 -"),
                               ("manner twice 1 0", "yes", "1 2"), ("manner handed 3 5 2", "no", "13 12"),
                               ("manner signs 3 1 1 2", "yes", "33 30"), ("manner shared 5 4 1 1 4", "yes", "271 261")):
            hands = int(row.split(" ")[2])
            self.says(Desk(text_of(row, *["hand deeds"] * hands, "weave")), ("right", yes), ("most", most))

    def test_book(self):
        rows = ("manner once 2", "hand deeds put 0 5", "hand deeds look")
        for weaving in ("", " 0", " 1 0"):
            desk = Desk(text_of(*rows, "weave" + weaving))
            self.says(desk, ("book 4000", "holds 8"), ("book 8", "holds 8"), ("book 7", "open"), ("book 0", "open"))
        self.says(Desk(text_of("manner once 1", "hand deeds", "weave")), ("book 0", "holds 1"))
        rows = ("manner once 3", "hand deeds look", "hand deeds put 1 5", "hand deeds put 2 6")
        words = Desk(text_of(*rows, "weave")).say("book 4000").split(" ")
        self.assertEqual(words[0], "breaks")
        weaving = tuple(int(word) for word in words[1:])
        jobs = (("deeds", (("look",),)), ("deeds", (("put", 1, 5),)), ("deeds", (("put", 2, 6),)))
        self.assertTrue(tells_wrong(replayed(("once", 3), jobs, weaving), weaving[-1]))


class TestRefusals(Desks):
    def test_texts_that_are_no_case(self):
        for text, row in ((CASE + "\n", 4), (CASE + " 2", 4), (CASE + " x", 3), ("", 0), ("manner once 2", 1), (CASE[1:], 0)):
            with self.assertRaises(NoText) as taken:
                Desk(text)
            self.assertEqual(taken.exception.row, row)
        for thing in ANYTHING:
            with self.assertRaises(NoText) as taken:
                Desk(thing)
            self.assertEqual(taken.exception.row, 0)

    def test_weavings_that_can_not_be_walked(self):
        for weaving, place in ((" 1 1", 3), (" 0 0 0", 4), (" 1 0 0 1 0", 5)):
            with self.assertRaises(NoStep) as taken:
                Desk(CASE + weaving)
            self.assertEqual(taken.exception.place, place)
        with self.assertRaises(NoStep) as taken:
            Desk(text_of("manner once 2", "hand deeds", "hand deeds", "weave 1"))
        self.assertEqual(taken.exception.place, 0)

    def test_lines_that_are_no_form(self):
        desk = Desk(CASE)
        for line in ("", " ", "x", "Hands", "hands ", " hands", "hands 0", "hands\n", "hand", "state 0", "told 0", "answers 0", "moments 0",
                     "order 0", "right 0", "most 0", "most put", "case 0", "back 1", "back ", "run", "run 0", "run 0 ", "run  0 1", "run 0  1",
                     "run 0 1 ", " run 0 1", "run 0 1 1", "run 2 1", "run -1 1", "run 0 1001", "run 0 -1", "run 00 1", "run 0 01", "run +0 1",
                     "run 0 +1", "run -0 1", "run x 1", "run 0 x", "run 0 1.0", "run 0,1", "run 0 1000000000000", "step", "step ", "step 2",
                     "step -1", "step 0 1", "step 00", "step x", "step +0", "step 0 ", "step  0", "Step 0", "book", "book ", "book -1", "book 4001",
                     "book 00", "book 01", "book x", "book 1 1", "book +1", "book 5 ", "book 1000000000000", "hands\tx", "run\t0 1",
                     "hands; state", "run 0 \u0661", "step \u0660", "step 0\n", "box", "quit", "()", "?", "-", "0", "run (0) 1", "run ? 1"):
            self.refused(desk, line)

    def test_things_that_are_no_texts(self):
        desk = Desk(CASE)
        for thing in ANYTHING + (["hands"], ("hands",), b"hands", 0, (), ["run", "0", "1"]):
            if not isinstance(thing, str):
                self.refused(desk, thing)


def shown(value):
    if value is None:
        return "-"
    if isinstance(value, tuple):
        return "(" + " ".join(shown(part) for part in value) + ")"
    return str(value)


class TestByTheFunctions(Desks):
    """Lines drawn on drawn cases, answered as the functions tell of the weaving by now."""

    def answers(self, manner, jobs, weaving):
        woven = Woven(manner, jobs)
        for hand in weaving:
            woven.step(hand)
        rows = woven.story()
        found = {
            "hands": " ".join(str(hand) for hand in woven.hands()) or "-",
            "state": shown(woven.states[-1]),
            "told": "; ".join(" ".join(shown(thing) for thing in told) or "." for told in woven.told),
            "answers": "; ".join(shown(answer_of(hand, job, woven.told[hand])) for hand, job in enumerate(jobs)),
            "moments": " ".join(shown(number) for number in moments(manner, jobs, weaving)) or ".",
            "right": "yes" if right(manner) else "no",
            "most": shown(most_steps(manner, "put")) + " " + shown(most_steps(manner, "look")),
            "case": show_case(manner, jobs, weaving),
        }
        for box, content in woven.boxes.items():
            found[" ".join(["box"] + [str(word) for word in box])] = shown(content)
        if len(rows) <= 9:
            found["order"] = "yes" if closure(rows, [((), (0,) * places_of(manner))])[1] else "no"
        return found

    def drawn(self, chance):
        manner = chance.choice(all_plain_manners())
        jobs = drawn_jobs(manner, chance)
        if jobs[0][0] == "deeds":
            jobs = tuple(("deeds", tuple(deed[:2] + (drawn_value(chance, 2),) if len(deed) == 3 else deed for deed in job[1]))
                         for job in jobs)
        return manner, jobs, drawn_weaving(manner, jobs, chance, chance.choice((0, 10, 40)))

    def test_drawn_lines(self):
        chance = random.Random(261)
        for _ in range(120):
            manner, jobs, weaving = self.drawn(chance)
            desk = Desk(show_case(manner, jobs, weaving))
            for _ in range(6):
                hand, steps = chance.randrange(manner[1]), chance.choice((0, 1, 3, 9, 30))
                if chance.random() < 0.4:
                    self.says(desk, ("back", "done" if weaving else "none"))
                    weaving = weaving[:-1]
                else:
                    done = self.possible(manner, jobs, weaving, hand, steps)
                    self.says(desk, (f"run {hand} {steps}", f"done {done}"))
                    weaving += (hand,) * done
                for line, answer in self.answers(manner, jobs, weaving).items():
                    self.says(desk, (line, answer))

    def possible(self, manner, jobs, weaving, hand, steps):
        woven = replayed(manner, jobs, weaving)
        for done in range(steps):
            if hand not in woven.hands():
                return done
            woven.step(hand)
        return steps

    def test_books(self):
        chance = random.Random(262)
        for _ in range(40):
            manner, jobs, weaving = self.drawn(chance)
            desk = Desk(show_case(manner, jobs, weaving))
            for most in (0, 1, 40):
                kind, found = book(manner, jobs, most)
                words = {"holds": lambda: "holds " + str(len(found)), "open": lambda: "open",
                         "breaks": lambda: " ".join(["breaks"] + [str(hand) for hand in found])}
                self.says(desk, (f"book {most}", words[kind]()))
