"""Contents of the form that each box has, whoever wrote them."""

from wholeglance.manners import places_of


class Contents:
    """Boxes read in turn; behind each read each changes to something else now and then."""

    def __init__(self, manner, chance, often, fixed=()):
        self.manner = manner
        self.chance = chance
        self.often = often
        self.fixed = fixed
        self.now = {}

    def read(self, box):
        if box not in self.now or (box not in self.fixed and self.chance.random() < self.often):
            self.now[box] = self.made(box)
        return self.now[box]

    def write(self, box, content):
        self.now[box] = content

    def value(self):
        return self.chance.choice((0, 1, 7, -3, 10 ** 12, (), (4, 2), ((1, (5,)), 0)))

    def bit(self):
        return self.chance.randrange(2)

    def state(self):
        return tuple(self.value() for _ in range(places_of(self.manner)))

    def made(self, box):
        word = self.manner[0]
        number = self.chance.randrange(12)
        if word == "tables":
            return self.chance.randrange(4)
        if box[0] in ("sign", "call"):
            return self.bit()
        if box[0] == "view":
            return self.state()
        if box[0] == "box":
            return (self.value(), self.chance.randrange(-1, self.manner[1]), self.bit())
        if word == "once":
            return self.value()
        if word == "twice":
            return (self.value(), number)
        if word == "handed":
            return (self.value(), number, self.state())
        return (self.value(), tuple(self.bit() for _ in range(self.manner[1])), self.bit(), self.state())
