from tests.asking import Asking
from tests.oddities import ANYTHING, spoiled, with_part
from tests.samples import PUT_ROWS, look_rows, tables
from wholeglance.manners import is_manner

END = ("end",)


def with_put(rows, hands=2, boxes=2):
    """A manner whose last hand has these rows for its put."""
    manner = tables(hands, boxes)
    return with_part(manner, 3, with_part(manner[3], hands - 1, rows))


def with_look(rows, hands=2, boxes=2):
    manner = tables(hands, boxes)
    return with_part(manner, 4, with_part(manner[4], hands - 1, rows))


class TestTables(Asking):
    def put_holds(self, rows, hands=2, boxes=2):
        self.holds(is_manner, with_put(rows, hands, boxes))

    def put_fails(self, rows, hands=2, boxes=2):
        self.fails(is_manner, with_put(rows, hands, boxes))

    def look_holds(self, rows, hands=2, boxes=2):
        self.holds(is_manner, with_look(rows, hands, boxes))

    def look_fails(self, rows, hands=2, boxes=2):
        self.fails(is_manner, with_look(rows, hands, boxes))

    def test_one_to_forty_rows(self):
        for count in (1, 2, 3, 39, 40):
            self.put_holds((("write", 0, 1, 0),) * count)
            self.look_holds((("read", 0, (), 0),) * count)
        for count in (0, 41, 42, 100):
            self.put_fails((("write", 0, 1, 0),) * count)
            self.look_fails((("read", 0, (), 0),) * count)
        self.put_holds((("write", 0, 1, 39),) + (END,) * 39)
        self.put_fails((("write", 0, 1, 39),) + (END,) * 40)

    def test_each_kind_of_row(self):
        steps = (("read", 1, ((0, 1), (9, 2)), 3), ("write", 1, 9, 2), ("read", 0, (), 0))
        self.put_holds(steps + (END,))
        self.look_holds(steps + (("told", (0, 1)),))
        self.put_holds((steps[1], END, steps[0], END))
        self.look_holds((steps[1], ("told", (1, 1)), steps[0], ("told", (0, 0))))

    def test_the_other_one_s_end(self):
        step = ("write", 0, 1, 1)
        self.put_fails((step, ("told", (0, 1))))
        self.look_fails((step, END))
        self.put_fails((step, END, ("told", (0, 1))))
        self.look_fails((step, ("told", (0, 1)), END))

    def test_row_nought_is_no_end(self):
        self.put_fails((END,))
        self.put_fails((END, ("write", 0, 1, 0)))
        self.look_fails((("told", (0, 0)),))
        self.look_fails((("told", (0, 0)), ("read", 0, (), 0)))

    def test_boxes_that_are_there(self):
        for boxes in (1, 2, 3, 4):
            for box in (-5, -1, 0, 1, 2, 3, 4, 5, 40):
                for step in (("read", box, (), 0), ("write", box, 1, 0)):
                    if 0 <= box < boxes:
                        self.put_holds((step, step, END), 2, boxes)
                        self.look_holds((step, step), 2, boxes)
                    else:
                        self.put_fails((step, END), 2, boxes)
                        self.put_fails((("write", 0, 1, 0), step), 2, boxes)
                        self.look_fails((step,), 2, boxes)
                        self.look_fails((("write", 0, 1, 0), step), 2, boxes)

    def test_rows_that_are_there(self):
        for count in (1, 2, 7, 40):
            filling = (END,) * (count - 1)
            for row in (-1, 0, 1, 2, 6, 7, 39, 40, 41):
                asked = self.put_holds if 0 <= row < count else self.put_fails
                asked((("write", 0, 1, row),) + filling)
                asked((("read", 0, (), row),) + filling)
                asked((("read", 0, ((1, row),), 0),) + filling)
                asked((("read", 0, ((1, 0), (2, row)), 0),) + filling)

    def test_contents(self):
        for content in range(-3, 13):
            asked = self.put_holds if 0 <= content <= 9 else self.put_fails
            asked((("write", 0, content, 1), END))
            asked((("read", 0, ((content, 1),), 1), END))
            asked((("write", 0, 1, 1), ("read", 0, ((content, 1),), 1)))
        self.put_fails((("write", 0, 10 ** 12, 1), END))

    def test_jumps_rise(self):
        rising = ((), ((3, 1),), ((0, 1), (1, 1)), ((0, 1), (9, 0)), ((2, 1), (5, 0), (8, 1)),
                  tuple((k, 1) for k in range(10)))
        for jumps in rising:
            self.put_holds((("read", 0, jumps, 1), END))
            self.look_holds((("read", 0, jumps, 1), ("told", (1, 0))))
        unrising = (((3, 1), (3, 1)), ((3, 0), (3, 1)), ((1, 1), (0, 1)), ((0, 0), (2, 0), (2, 0)),
                    ((0, 0), (5, 0), (4, 0)), ((9, 0), (9, 0)), tuple((k, 1) for k in range(9, -1, -1)))
        for jumps in unrising:
            self.put_fails((("read", 0, jumps, 1), END))
            self.look_fails((("read", 0, jumps, 1), ("told", (1, 0))))

    def test_jumps_are_pairs(self):
        unpaired = (((),), ((1,),), ((1, 1, 1),), (1, 1), (1,), ([1, 1],), [(1, 1)], {1: 1}, None, 1, "", ((1, 1), ()))
        for jumps in unpaired:
            self.put_fails((("read", 0, jumps, 1), END))

    def test_states(self):
        for hands in (1, 2, 5):
            for length in range(8):
                asked = self.look_holds if length == hands else self.look_fails
                asked((("read", 0, (), 1), ("told", (0,) * length)), hands)
                asked((("read", 0, (), 1), ("told", (1,) * length)), hands)
        for number in (-1, 2, 3, 10, True, False, None, "1", 1.0, (1,), [1]):
            self.look_fails((("read", 0, (), 1), ("told", (0, number))))
            self.look_fails((("read", 0, (), 1), ("told", (number, 0))))
        for state in ([0, 1], None, 1, "01", {0: 0, 1: 1}):
            self.look_fails((("read", 0, (), 1), ("told", state)))

    def test_a_part_more_or_fewer_in_a_row(self):
        rows = (("read", 0, (), 1), ("write", 0, 1, 1))
        for row in rows:
            for length in range(4):
                self.put_fails((row[:length], END))
                self.put_fails((row, row[:length]))
            self.put_fails((row + (1,), END))
            self.put_fails((row, row + (1,)))
        self.put_fails((rows[0], ()))
        self.put_fails((rows[0], ("end", 0)))
        self.put_fails((rows[0], ("end", ())))
        self.look_fails((rows[0], ("told",)))
        self.look_fails((rows[0], ("told", (0, 0), 0)))

    def test_words_of_rows(self):
        for word in ("", "Read", "reads", "put", "look", "END", "jump", "once", None, 0, b"read", ["read"]):
            self.put_fails(((word, 0, (), 1), END))
            self.put_fails(((word, 0, 1, 1), END))
            self.put_fails((PUT_ROWS[0], (word,)))
            self.look_fails((PUT_ROWS[0], (word, (0, 0))))

    def test_a_table_for_each_hand(self):
        for hands in (1, 2, 3, 4, 5):
            manner = tables(hands, 2)
            for count in range(8):
                asked = self.holds if count == hands else self.fails
                asked(is_manner, with_part(manner, 3, (PUT_ROWS,) * count))
                asked(is_manner, with_part(manner, 4, (look_rows(hands),) * count))

    def test_every_hand_s_table_is_looked_at(self):
        manner = tables(3, 2)
        for hand in range(3):
            for rows in ((), (END,), PUT_ROWS * 21, None, [PUT_ROWS[0], END], (PUT_ROWS[0], None)):
                self.fails(is_manner, with_part(manner, 3, with_part(manner[3], hand, rows)))
                self.fails(is_manner, with_part(manner, 4, with_part(manner[4], hand, rows)))

    def test_numbers_of_hands_and_boxes(self):
        for hands in (-1, 0, 6, 7):
            self.fails(is_manner, tables(hands, 2))
        for boxes in (-1, 0, 5, 6):
            self.fails(is_manner, tables(2, boxes))

    def test_a_part_more_or_fewer(self):
        manner = tables(2, 2)
        for length in range(5):
            self.fails(is_manner, manner[:length])
        for more in (1, (), None, manner[4]):
            self.fails(is_manner, manner + (more,))

    def test_lists_truths_and_others_at_any_depth(self):
        put = (("read", 1, ((0, 1), (1, 1)), 0), ("write", 1, 1, 1), END)
        look = (("read", 1, ((0, 1), (1, 1)), 0), ("write", 0, 1, 1), ("told", (1, 0)))
        manner = ("tables", 2, 2, (put, put), (look, look))
        self.holds(is_manner, manner)
        for wrong in spoiled(manner):
            self.fails(is_manner, wrong)

    def test_things_of_any_kind(self):
        manner = tables(2, 2)
        for thing in ANYTHING:
            for place in range(1, 5):
                self.fails(is_manner, with_part(manner, place, thing))
            self.put_fails(thing)
            self.look_fails(thing)
            self.put_fails((PUT_ROWS[0], thing))
            self.look_fails((thing,) + look_rows(2))
            self.put_fails((("read", 0, thing, 1), END))
            self.put_fails((("write", 0, thing, 1), END))
            self.put_fails((("write", thing, 0, 1), END))
            self.put_fails((("write", 0, 0, thing), END))
