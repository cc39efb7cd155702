from tests.asking import Asking
from tests.samples import all_plain_manners
from wholeglance.boxes import first_boxes
from wholeglance.collects import collect_boxes


class TestCollectBoxes(Asking):
    def test_of_all_hands_by_rising_numbers(self):
        for manner in (("once", 3), ("twice", 3, 0), ("handed", 3, 2, 2), ("signs", 3, 1, 1, 2)):
            self.assertEqual(self.asked(collect_boxes, manner), (("own", 0), ("own", 1), ("own", 2)))
        self.assertEqual(collect_boxes(("once", 1)), (("own", 0),))

    def test_of_all_places_in_shared(self):
        self.assertEqual(collect_boxes(("shared", 5, 1, 1, 1, 2)), (("box", 0),))
        self.assertEqual(collect_boxes(("shared", 1, 4, 0, 0, 1)), (("box", 0), ("box", 1), ("box", 2), ("box", 3)))

    def test_just_the_boxes_that_are_there(self):
        for manner in all_plain_manners():
            word = "box" if manner[0] == "shared" else "own"
            there = tuple(box for box, content in first_boxes(manner) if box[0] == word)
            self.assertEqual(collect_boxes(manner), there)
