"""next_step against the document's words, on contents that change and that don't."""

import random

from tests.asking import Asking
from tests.contents import Contents
from tests.deedwords import Walk
from tests.samples import all_plain_manners, plain_manners, tables
from tests.tablemaking import drawn_tables
from wholeglance.asking import next_step
from wholeglance.manners import is_manner, places_of

MOST = 160


class TestByWords(Asking):
    def led(self, manner, hand, deed, ahead, contents):
        """What the deed tells, and how many steps it took; each step is asked as the document words it."""
        walk = Walk(manner, hand, deed, ahead)
        reads = ()
        while len(reads) < MOST:
            step = next_step(manner, hand, deed, ahead, reads)
            self.assertEqual(step, walk.step, (manner, hand, deed, ahead, reads))
            if step[0] == "told":
                break
            content = None
            if step[0] == "read":
                content = contents.read(step[1])
            else:
                contents.write(step[1], step[2])
            reads = reads + (content,)
            walk.send(content)
        self.assertEqual(repr(self.asked(next_step, manner, hand, deed, ahead, reads)), repr(walk.step))
        return step, len(reads)

    def deeds(self, manner, hand, chance):
        places = range(places_of(manner)) if manner[0] == "shared" else (hand,)
        value = 1 if manner[0] == "tables" else chance.choice((0, 5, -2, (3, (4,))))
        return [("look",), ("put", chance.choice(places), value)]

    def try_all(self, manner, chance, often):
        hand = chance.randrange(manner[1])
        ended = []
        for deed in self.deeds(manner, hand, chance):
            ahead = tuple(chance.choice((0, 1, 2, 3, 8, 9, 10, 1000003)) for _ in range(places_of(manner)))
            step, steps = self.led(manner, hand, deed, ahead, Contents(manner, chance, often))
            if step[0] == "told":
                ended.append((step, steps))
        return ended

    def test_all_manners_on_contents_that_do_not_change(self):
        chance = random.Random(31)
        for manner in all_plain_manners():
            self.assertEqual(len(self.try_all(manner, chance, 0)), 2, manner)

    def test_all_manners_on_contents_that_change_now_and_then(self):
        chance = random.Random(32)
        for manner in all_plain_manners():
            self.try_all(manner, chance, chance.choice((0.02, 0.1, 0.3)))

    def test_contents_that_change_at_each_read(self):
        chance = random.Random(33)
        for word in ("once", "handed", "signs", "shared"):
            for manner in plain_manners(word):
                self.assertEqual(len(self.try_all(manner, chance, 1)), 2, manner)

    def test_tables(self):
        chance = random.Random(34)
        for _ in range(300):
            manner = drawn_tables(chance, chance.randint(1, 3), chance.randint(1, 3))
            self.assertTrue(is_manner(manner), manner)
            for _ in range(4):
                self.try_all(manner, chance, 0.5)
        self.try_all(tables(3, 2), chance, 0.5)
