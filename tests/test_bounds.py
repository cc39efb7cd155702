import random

from tests.asking import Asking
from tests.contents import Contents
from tests.samples import HANDS, all_plain_manners, plain_manners
from wholeglance.asking import next_step
from wholeglance.bounds import most_steps
from wholeglance.manners import places_of

LOOK = ("look",)


def put_of(manner, hand):
    return ("put", 0 if manner[0] == "shared" else hand, 5)


class TestMostSteps(Asking):
    def most(self, manner, put, look):
        self.assertEqual(self.asked(most_steps, manner, "put"), put, manner)
        self.assertEqual(self.asked(most_steps, manner, "look"), look, manner)

    def test_once(self):
        for hands in HANDS:
            self.most(("once", hands), 1, hands)

    def test_twice(self):
        for turn in (0, 2, 9):
            self.most(("twice", 1, turn), 1, 2)
            for hands in (2, 3, 4, 5):
                self.most(("twice", hands, turn), 1, None)

    def test_handed(self):
        self.most(("handed", 1, 0, 4), 3, 2)
        self.most(("handed", 2, 0, 1), 5, 4)
        self.most(("handed", 2, 0, 2), 7, 6)
        self.most(("handed", 3, 5, 2), 13, 12)
        self.most(("handed", 3, 0, 4), 25, 24)
        self.most(("handed", 5, 2, 4), 71, 70)

    def test_signs(self):
        for toggles in (0, 1):
            self.most(("signs", 1, toggles, 0, 3), 3, 2)
            self.most(("signs", 1, toggles, 1, 3), 3, 2)
            self.most(("signs", 2, toggles, 0, 1), 5, 4)
            self.most(("signs", 2, toggles, 1, 1), 8, 6)
            self.most(("signs", 2, toggles, 1, 2), 14, 12)
            self.most(("signs", 3, toggles, 1, 2), 33, 30)
            self.most(("signs", 3, toggles, 0, 2), 19, 18)
            self.most(("signs", 5, toggles, 1, 4), 239, 234)

    def test_shared(self):
        for toggles in (0, 1):
            self.most(("shared", 1, 3, toggles, 0, 4), 8, 6)
            self.most(("shared", 1, 3, toggles, 1, 4), 8, 6)
            self.most(("shared", 2, 1, toggles, 0, 1), 5, 3)
            self.most(("shared", 2, 1, toggles, 1, 1), 10, 6)
            self.most(("shared", 2, 4, toggles, 1, 3), 38, 34)
            self.most(("shared", 3, 2, toggles, 0, 3), 23, 21)
            self.most(("shared", 5, 4, toggles, 1, 4), 271, 261)


class Leading(Asking):
    def steps(self, manner, hand, deed, contents):
        """How many steps the deed takes, None where it takes more than there may be."""
        reads = ()
        for taken in range(most_steps(manner, deed[0]) + 2):
            step = next_step(manner, hand, deed, (0,) * places_of(manner), reads)
            if step[0] == "told":
                return taken
            if step[0] == "write":
                contents.write(step[1], step[2])
            reads = reads + (contents.read(step[1]) if step[0] == "read" else None,)
        return None


class TestNoDeedTakesMore(Leading):
    def test_on_contents_that_change(self):
        chance = random.Random(101)
        for manner in all_plain_manners():
            if manner[0] == "twice":
                continue
            hand = chance.randrange(manner[1])
            for deed in (LOOK, put_of(manner, hand)):
                # Nobody else writes one's own box.
                contents = Contents(manner, chance, chance.choice((0.05, 0.3, 1)), (("own", hand),))
                taken = self.steps(manner, hand, deed, contents)
                self.assertIsNotNone(taken, (manner, hand, deed))
                self.assertLessEqual(taken, most_steps(manner, deed[0]))

    def test_twice(self):
        chance = random.Random(102)
        for turn in (0, 2, 9):
            contents = Contents(("twice", 1, turn), chance, 1, (("own", 0),))
            self.assertEqual(self.steps(("twice", 1, turn), 0, LOOK, contents), 2)
            for hands in HANDS:
                self.assertEqual(self.steps(("twice", hands, turn), 0, ("put", 0, 5), contents), 1)

    def test_twice_goes_on_while_others_do(self):
        reads = ()
        for number in range(100):
            reads = reads + ((0, 0), (number, number))
            self.assertEqual(next_step(("twice", 2, 0), 0, LOOK, (0, 0), reads), ("read", ("own", 0)))


class Movers:
    """Contents by which in each round just one other hand is seen to move, each as often as it may, then one more."""

    def __init__(self, manner, hand):
        self.manner = manner
        self.hand = hand
        others = [other for other in range(manner[1]) if other != hand]
        self.due = [other for other in others for _ in range(manner[-1] - 1)] + others[:1]
        self.collects = 0
        self.opened = 0
        self.rounds = 0

    def write(self, box, content):
        pass

    def mover(self, rounds):
        return self.due[rounds] if 0 <= rounds < len(self.due) else None


class HandedMovers(Movers):
    def read(self, box):
        hands = self.manner[1]
        collect = self.collects // hands
        self.collects += 1
        return (0, self.due[:collect].count(box[1]), (0,) * hands)


class SignsMovers(Movers):
    """Seen by a toggle, or with shakes alone by a call."""

    def read(self, box):
        _, hands, toggles, shakes, _ = self.manner
        zeros = (0,) * hands
        if box[0] == "sign" or self.opened < shakes * (hands - 1):
            self.opened += box[0] == "own"
            return 0 if box[0] == "sign" else (0, zeros, 0, zeros)
        moves = self.collects >= hands and self.mover(self.rounds) == box[1]
        self.collects += 1
        if self.collects == 2 * hands:
            self.collects = self.opened = 0
            self.rounds += 1
        calls = (int(moves and not toggles),) * hands
        return (0, calls, int(moves and toggles), zeros)


class SharedMovers(Movers):
    """Seen by the writer of the first box in the second collect."""

    def read(self, box):
        if box[0] == "view":
            return (0,) * self.manner[2]
        if box[0] != "box":
            return 0
        places = self.manner[2]
        second = self.collects % (2 * places) >= places
        mover = self.mover(self.collects // (2 * places))
        self.collects += 1
        return (0, mover if second and box[1] == 0 and mover is not None else -1, 0)


class TestDeedsThatTakeTheMost(Leading):
    def taken(self, manner, movers):
        for hand in (0, manner[1] - 1):
            for deed in (LOOK, put_of(manner, hand)):
                self.assertEqual(self.steps(manner, hand, deed, movers(manner, hand)), most_steps(manner, deed[0]), manner)

    def test_once(self):
        for manner in plain_manners("once"):
            for deed in (LOOK, ("put", 0, 5)):
                contents = Contents(manner, random.Random(103), 1)
                self.assertEqual(self.steps(manner, 0, deed, contents), most_steps(manner, deed[0]))

    def test_handed(self):
        for manner in plain_manners("handed"):
            self.taken(manner, HandedMovers)

    def test_signs_where_anybody_can_be_seen(self):
        for manner in plain_manners("signs"):
            if manner[2] == 1 or manner[3] == 1:
                self.taken(manner, SignsMovers)

    def test_shared(self):
        for manner in plain_manners("shared"):
            self.taken(manner, SharedMovers)
