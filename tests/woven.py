"""Weavings done by the document's words, beside the program: boxes, rooms, stories and states."""

from tests.deedwords import Walk
from wholeglance.boxes import first_boxes
from wholeglance.jobs import next_deed
from wholeglance.manners import places_of


class Woven:
    def __init__(self, manner, jobs):
        self.manner = manner
        self.jobs = jobs
        self.boxes = dict(first_boxes(manner))
        self.steps = 0
        self.told = [()] * manner[1]
        self.reads = [()] * manner[1]
        self.since = [()] * manner[1]
        self.walks = [None] * manner[1]
        self.ahead = [[0] * places_of(manner) for _ in range(manner[1])]
        self.states = [(0,) * places_of(manner)]
        self.rows = []

    def deed(self, hand):
        return next_deed(hand, self.jobs[hand], self.told[hand])

    def hands(self):
        return [hand for hand in range(self.manner[1]) if self.deed(hand) is not None]

    def room(self):
        return (tuple(sorted(self.boxes.items())), tuple(zip(self.told, self.reads, self.since)))

    def step(self, hand):
        deed = self.deed(hand)
        if self.walks[hand] is None:
            self.walks[hand] = Walk(self.manner, hand, deed, tuple(self.ahead[hand]))
            self.rows.append([hand, deed, self.steps, None, None])
            if deed == ("look",) and self.manner[0] != "tables":
                self.since[hand] = (self.states[-1],)
        self.steps += 1
        step = self.walks[hand].step
        content = self.boxes[step[1]] if step[0] == "read" else None
        if step[0] == "write":
            self.boxes[step[1]] = step[2]
        self.reads[hand] = self.reads[hand] + (content,)
        self.walks[hand].send(content)
        state = self.states[-1]
        if self.walks[hand].step[0] == "told":
            state = self.ended(hand, deed)
        self.states.append(state)
        for other in range(self.manner[1]):
            if self.since[other] and state not in self.since[other]:
                self.since[other] = self.since[other] + (state,)

    def ended(self, hand, deed):
        """The state behind the last step of this deed."""
        told = self.walks[hand].step[1]
        row = [row for row in self.rows if row[0] == hand][-1]
        row[3:] = [self.steps, told]
        self.told[hand] = self.told[hand] + (told,)
        self.reads[hand] = self.since[hand] = ()
        self.walks[hand] = None
        if deed == ("look",):
            return self.states[-1]
        self.ahead[hand][deed[1]] += 1
        return self.states[-1][:deed[1]] + (deed[2],) + self.states[-1][deed[1] + 1:]

    def story(self):
        return tuple(tuple(row) for row in self.rows)


def drawn_weaving(manner, jobs, chance, most):
    """A weaving of at most so many steps, in which hands go on for a while, and some stop for ever."""
    woven = Woven(manner, jobs)
    stops = [chance.choice((most, most, chance.randint(0, 20))) for _ in range(manner[1])]
    weaving = []
    hand = 0
    while len(weaving) < most:
        able = [other for other in woven.hands() if weaving.count(other) < stops[other]]
        if not able:
            break
        if hand not in able or chance.random() < 0.4:
            hand = chance.choice(able)
        woven.step(hand)
        weaving.append(hand)
    return tuple(weaving)


def drawn_deeds(manner, chance, most):
    return tuple(("deeds", tuple(drawn_deed(manner, hand, chance) for _ in range(chance.randint(0, most))))
                 for hand in range(manner[1]))


def drawn_deed(manner, hand, chance):
    if chance.random() < 0.4:
        return ("look",)
    place = chance.randrange(places_of(manner)) if manner[0] == "shared" else hand
    return ("put", place, 1 if manner[0] == "tables" else chance.randrange(3))


def drawn_jobs(manner, chance):
    """Jobs of some word, or of deeds where these alone may be."""
    hands = range(manner[1])
    word = chance.choice(("deeds", "deeds", "sums", "name", "least", "closer"))
    if word == "deeds" or manner[0] in ("shared", "tables"):
        return drawn_deeds(manner, chance, 5)
    if word == "sums":
        return tuple(("sums", tuple(chance.choice((None, chance.randint(-5, 5))) for _ in range(4))) for _ in hands)
    numbers = chance.sample(range(-20, 20), len(hands))
    if word == "name":
        return tuple(("name", number) for number in numbers)
    third = chance.randint(1, len(hands)) if word == "least" else chance.randint(1, 3)
    return tuple((word, number, third) for number in numbers)
