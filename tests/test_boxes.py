from tests.asking import Asking
from tests.samples import BOXES, HANDS, PLACES, all_plain_manners, plain_manners, tables
from wholeglance.boxes import first_boxes
from wholeglance.values import is_state


def crossed(hands):
    return [(i, j) for i in range(hands) for j in range(hands) if i != j]


class TestFirstBoxes(Asking):
    def boxes(self, manner, expected):
        self.assertEqual(self.asked(first_boxes, manner), tuple(sorted(expected.items())))

    def test_once(self):
        self.assertEqual(first_boxes(("once", 1)), ((("own", 0), 0),))
        for hands in HANDS:
            self.boxes(("once", hands), {("own", h): 0 for h in range(hands)})

    def test_twice(self):
        self.assertEqual(first_boxes(("twice", 2, 5)), ((("own", 0), (0, 0)), (("own", 1), (0, 0))))
        for manner in plain_manners("twice"):
            self.boxes(manner, {("own", h): (0, 0) for h in range(manner[1])})

    def test_handed(self):
        self.assertEqual(first_boxes(("handed", 2, 0, 2)), ((("own", 0), (0, 0, (0, 0))), (("own", 1), (0, 0, (0, 0)))))
        for manner in plain_manners("handed"):
            view = (0,) * manner[1]
            self.boxes(manner, {("own", h): (0, 0, view) for h in range(manner[1])})

    def test_signs(self):
        own = (0, (0, 0), 0, (0, 0))
        self.assertEqual(first_boxes(("signs", 2, 1, 0, 2)), ((("own", 0), own), (("own", 1), own)))
        self.assertEqual(first_boxes(("signs", 2, 0, 1, 2)),
                         ((("own", 0), own), (("own", 1), own), (("sign", 0, 1), 0), (("sign", 1, 0), 0)))
        self.assertEqual(first_boxes(("signs", 1, 1, 1, 1)), ((("own", 0), (0, (0,), 0, (0,))),))
        for manner in plain_manners("signs"):
            hands = manner[1]
            expected = {("own", h): (0, (0,) * hands, 0, (0,) * hands) for h in range(hands)}
            if manner[3] == 1:
                expected.update({("sign", i, j): 0 for i, j in crossed(hands)})
            self.boxes(manner, expected)

    def test_shared(self):
        self.assertEqual(first_boxes(("shared", 2, 1, 1, 0, 1)),
                         ((("box", 0), (0, -1, 0)), (("view", 0), (0,)), (("view", 1), (0,))))
        self.assertEqual(first_boxes(("shared", 2, 1, 0, 1, 1)),
                         ((("box", 0), (0, -1, 0)), (("call", 0, 1), 0), (("call", 1, 0), 0), (("sign", 0, 1), 0),
                          (("sign", 1, 0), 0), (("view", 0), (0,)), (("view", 1), (0,))))
        for manner in plain_manners("shared"):
            hands, places = manner[1], manner[2]
            expected = {("box", k): (0, -1, 0) for k in range(places)}
            expected.update({("view", h): (0,) * places for h in range(hands)})
            if manner[4] == 1:
                for word in ("call", "sign"):
                    expected.update({(word, i, j): 0 for i, j in crossed(hands)})
            self.boxes(manner, expected)

    def test_tables(self):
        for hands in HANDS:
            for boxes in BOXES:
                self.boxes(tables(hands, boxes), {("box", b): 0 for b in range(boxes)})

    def test_all_are_rising_tuples_of_whole_numbers(self):
        for manner in all_plain_manners() + [tables(h, b) for h in HANDS for b in PLACES]:
            told = first_boxes(manner)
            self.assertIsInstance(told, tuple)
            for ahead, behind in zip(told, told[1:]):
                self.assertLess(ahead[0], behind[0])
            for pair in told:
                self.assertIsInstance(pair, tuple)
                box, content = pair
                self.assertIsInstance(box, tuple)
                self.assertTrue(is_state(1, (content,)), content)
