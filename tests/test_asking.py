"""next_step of each manner, step by step, as written out by hand."""

from tests.asking import Asking
from wholeglance.asking import next_step

LOOK = ("look",)


def read(box, content):
    return (("read", box), content)


def write(box, content):
    return (("write", box, content), None)


def reads(word, contents):
    return [read((word, number), content) for number, content in enumerate(contents)]


class Leading(Asking):
    def led(self, manner, hand, deed, ahead, script, told):
        """The deed takes just the steps of the script, and tells this."""
        done = ()
        for step, content in script:
            self.assertEqual(self.asked(next_step, manner, hand, deed, ahead, done), step)
            done = done + (content,)
        self.assertEqual(self.asked(next_step, manner, hand, deed, ahead, done), ("told", told))


class TestOnce(Leading):
    def test_look_tells_the_contents(self):
        self.led(("once", 3), 1, LOOK, (0, 4, 0), reads("own", (5, (1, 2), -7)), (5, (1, 2), -7))
        self.led(("once", 1), 0, LOOK, (0,), reads("own", (0,)), (0,))

    def test_put_writes_the_value(self):
        self.led(("once", 3), 2, ("put", 2, (4, 4)), (9, 9, 9), [write(("own", 2), (4, 4))], None)
        self.led(("once", 1), 0, ("put", 0, -1), (0,), [write(("own", 0), -1)], None)


class TestTwice(Leading):
    def put(self, turn, ahead, number):
        manner = ("twice", 3, turn)
        self.led(manner, 1, ("put", 1, 8), (50, ahead, 60), [write(("own", 1), (8, number))], None)

    def test_put_without_turn_counts_its_own_puts(self):
        for ahead, number in ((0, 1), (1, 2), (9, 10), (1000000, 1000001)):
            self.put(0, ahead, number)

    def test_put_with_turn_writes_what_is_left(self):
        for turn, ahead, number in ((2, 0, 1), (2, 1, 0), (2, 2, 1), (3, 1, 2), (3, 2, 0), (9, 7, 8), (9, 8, 0), (9, 9, 1)):
            self.put(turn, ahead, number)

    def test_look_on_contents_that_stay(self):
        same = ((5, 1), (0, 0), (6, 3))
        for turn in (0, 4):
            self.led(("twice", 3, turn), 2, LOOK, (0, 0, 3), reads("own", same) * 2, (5, 0, 6))

    def test_look_goes_on_till_no_number_is_another(self):
        script = reads("own", ((5, 1), (0, 0))) + reads("own", ((5, 1), (7, 1))) + reads("own", ((6, 2), (7, 1)))
        self.led(("twice", 2, 0), 0, LOOK, (0, 0), script + reads("own", ((6, 2), (7, 1))), (6, 7))

    def test_look_asks_the_numbers_alone(self):
        script = reads("own", ((5, 1), (0, 0))) + reads("own", ((6, 1), (7, 0)))
        self.led(("twice", 2, 2), 0, LOOK, (0, 0), script, (6, 7))

    def test_look_compares_with_the_collect_just_ahead(self):
        first = reads("own", ((1, 0), (1, 0)))
        other = reads("own", ((2, 1), (1, 0)))
        self.led(("twice", 2, 2), 1, LOOK, (0, 0), first + other + first + other + other, (2, 1))

    def test_own_number_counts_too(self):
        script = reads("own", ((5, 1), (0, 0))) + reads("own", ((6, 2), (0, 0))) * 2
        self.led(("twice", 2, 0), 0, LOOK, (0, 0), script, (6, 0))

    def test_one_hand_alone_reads_itself_twice(self):
        self.led(("twice", 1, 0), 0, LOOK, (3,), reads("own", ((4, 3),)) * 2, (4,))


class TestHanded(Leading):
    def test_nobody_moves(self):
        same = reads("own", ((5, 1, (9, 9)), (6, 2, (8, 8)))) * 2
        for moves in (1, 2, 4):
            self.led(("handed", 2, 0, moves), 0, LOOK, (1, 0), same, (5, 6))

    def test_moved_once_is_enough_with_one_move(self):
        script = reads("own", ((5, 1, (1, 0)), (6, 2, (0, 2)))) + reads("own", ((5, 1, (1, 0)), (7, 3, (4, 4))))
        self.led(("handed", 2, 0, 1), 0, LOOK, (1, 0), script, (4, 4))

    def test_moves_of_one_hand_are_counted_over_collects(self):
        quiet = (0, 0, (0, 0, 0))
        numbers = (((quiet, (1, 1, (1, 1, 1)), (2, 1, (2, 2, 2))), (quiet, (1, 2, (3, 3, 3)), (2, 1, (2, 2, 2))),
                    (quiet, (1, 2, (4, 4, 4)), (2, 2, (5, 5, 5))), (quiet, (1, 3, (6, 6, 6)), (2, 2, (7, 7, 7)))))
        script = [step for contents in numbers for step in reads("own", contents)]
        self.led(("handed", 3, 0, 2), 0, LOOK, (0, 0, 0), script, (6, 6, 6))

    def test_a_collect_in_which_nobody_moves_ends_it_ahead_of_that(self):
        numbers = [((0, 0, (0, 0)), (1, 1, (1, 1))), ((0, 0, (0, 0)), (2, 2, (1, 2))), ((0, 0, (0, 0)), (3, 2, (1, 3)))]
        script = [step for contents in numbers for step in reads("own", contents)]
        self.led(("handed", 2, 0, 2), 0, LOOK, (0, 0), script, (0, 3))

    def test_the_least_of_several_and_its_view_in_the_last_collect(self):
        def contents(number):
            return [(hand, number, (hand, number, 77)) for hand in range(3)]
        for moves in (1, 2, 3, 4):
            script = [step for number in range(moves + 1) for step in reads("own", contents(number))]
            self.led(("handed", 3, 0, moves), 1, LOOK, (0, 0, 0), script, (0, moves, 77))

    def test_not_the_least_that_moved_but_the_least_that_moved_often_enough(self):
        script = reads("own", ((0, 0, (1,) * 3), (0, 0, (2,) * 3), (0, 0, (3,) * 3)))
        script += reads("own", ((0, 0, (1,) * 3), (0, 0, (2,) * 3), (0, 1, (4,) * 3)))
        script += reads("own", ((0, 1, (5,) * 3), (0, 0, (2,) * 3), (0, 2, (6,) * 3)))
        self.led(("handed", 3, 0, 2), 1, LOOK, (0, 0, 0), script, (6, 6, 6))

    def test_put_looks_first_and_hands_its_view_on(self):
        same = reads("own", ((5, 1, (9, 9)), (6, 2, (8, 8)))) * 2
        for turn, ahead, number in ((0, 0, 1), (0, 7, 8), (3, 2, 0), (3, 3, 1)):
            script = same + [write(("own", 1), (4, number, (5, 6)))]
            self.led(("handed", 2, turn, 2), 1, ("put", 1, 4), (55, ahead), script, None)

    def test_put_hands_on_a_view_that_its_look_was_handed(self):
        script = reads("own", ((5, 1, (1, 0)), (6, 2, (0, 2)))) + reads("own", ((5, 2, (4, 3)), (6, 2, (0, 2))))
        self.led(("handed", 2, 0, 1), 1, ("put", 1, 4), (0, 2), script + [write(("own", 1), (4, 3, (4, 3)))], None)

    def test_one_hand_alone(self):
        same = reads("own", ((5, 1, (9,)),)) * 2
        self.led(("handed", 1, 0, 1), 0, LOOK, (1,), same, (5,))
        self.led(("handed", 1, 2, 1), 0, ("put", 0, 6), (1,), same + [write(("own", 0), (6, 0, (5,)))], None)


def own(value, calls=(0, 0), toggle=0, view=(0, 0)):
    return (value, calls, toggle, view)


class TestSigns(Leading):
    def test_without_toggles_and_shakes_nobody_is_seen(self):
        script = reads("own", (own(1), own(2))) + reads("own", (own(3, (1, 1), 1), own(4, (1, 1), 1)))
        for moves in (1, 4):
            self.led(("signs", 2, 0, 0, moves), 0, LOOK, (0, 0), script, (3, 4))

    def test_toggles_alone(self):
        script = reads("own", (own(1), own(2))) + reads("own", (own(1), own(3, (0, 0), 1, (8, 9))))
        self.led(("signs", 2, 1, 0, 1), 0, LOOK, (0, 0), script, (8, 9))
        quiet = reads("own", (own(1), own(3, (1, 1), 1))) + reads("own", (own(1), own(4, (0, 0), 1)))
        self.led(("signs", 2, 1, 0, 1), 0, LOOK, (0, 0), quiet, (1, 4))
        self.led(("signs", 2, 1, 0, 2), 0, LOOK, (0, 0), script + quiet, (1, 4))
        self.led(("signs", 2, 1, 0, 2), 0, LOOK, (0, 0), script + script, (8, 9))

    def test_between_rounds_nothing_is_compared(self):
        first = reads("own", (own(1), own(2))) + reads("own", (own(1), own(3, (0, 0), 1)))
        second = reads("own", (own(1), own(5))) * 2
        self.led(("signs", 2, 1, 0, 2), 0, LOOK, (0, 0), first + second, (1, 5))

    def test_shakes_alone_on_contents_that_stay(self):
        there = (own(1, (0, 1), 0), own(2, (1, 0), 1))
        script = [read(("own", 1), there[1]), write(("sign", 0, 1), 1)] + reads("own", there) * 2
        self.led(("signs", 2, 0, 1, 1), 0, LOOK, (0, 0), script, (1, 2))
        script = [read(("own", 0), there[0]), write(("sign", 1, 0), 1)] + reads("own", there) * 2
        self.led(("signs", 2, 0, 1, 1), 1, LOOK, (0, 0), script, (1, 2))

    def test_a_call_that_differs_from_the_sign_in_either_collect(self):
        shake = [read(("own", 1), own(2)), write(("sign", 0, 1), 0)]
        called = own(3, (1, 0), 0, (6, 7))
        quiet = own(4, (0, 1), 1, (5, 5))
        for first, second, told in ((called, called, (6, 7)), (called, quiet, (5, 5)), (quiet, called, (6, 7)),
                                    (quiet, quiet, (1, 4))):
            script = shake + reads("own", (own(1), first)) + reads("own", (own(1), second))
            self.led(("signs", 2, 0, 1, 1), 0, LOOK, (0, 0), script, told)

    def test_both_seen_in_one_round_count_once(self):
        moved = [read(("own", 1), own(2)), write(("sign", 0, 1), 0)]
        moved += reads("own", (own(1), own(2))) + reads("own", (own(1), own(3, (1, 0), 1, (6, 7))))
        last = own(4, (1, 0), 1, (2, 2))
        quiet = [read(("own", 1), last), write(("sign", 0, 1), 1)] + reads("own", (own(1), last)) * 2
        self.led(("signs", 2, 1, 1, 2), 0, LOOK, (0, 0), moved + quiet, (1, 4))
        for moves in (1, 2, 3, 4):
            self.led(("signs", 2, 1, 1, moves), 0, LOOK, (0, 0), moved * moves, (6, 7))

    def test_one_is_not_seen_to_move_oneself(self):
        script = [read(("own", 1), own(2)), write(("sign", 0, 1), 0)]
        script += reads("own", (own(1), own(2))) + reads("own", (own(5, (1, 1), 1, (6, 7)), own(2)))
        self.led(("signs", 2, 1, 1, 1), 0, LOOK, (0, 0), script, (5, 2))

    def test_three_hands_shake_by_rising_numbers(self):
        there = [own(hand, (0, 0, 0), 0, (hand,) * 3) for hand in range(3)]
        shakes = [read(("own", 0), own(0, (1, 1, 0))), write(("sign", 1, 0), 1),
                  read(("own", 2), own(0, (1, 0, 1))), write(("sign", 1, 2), 0)]
        moved = shakes + reads("own", there) * 2
        self.led(("signs", 3, 0, 1, 1), 1, LOOK, (0, 0, 0), moved, (0, 0, 0))
        others = [read(("own", 0), own(0, (1, 0, 0))), write(("sign", 1, 0), 0),
                  read(("own", 2), own(0, (1, 1, 1))), write(("sign", 1, 2), 1)] + reads("own", there) * 2
        self.led(("signs", 3, 0, 1, 2), 1, LOOK, (0, 0, 0), moved + others + others, (2, 2, 2))

    def test_put_without_shakes(self):
        same = reads("own", (own(1), own(2))) * 2
        for toggles, ahead, toggle in ((1, 0, 1), (1, 1, 0), (1, 2, 1), (1, 1000001, 0), (0, 0, 0), (0, 1, 0)):
            script = same + [write(("own", 1), (7, (0, 0), toggle, (1, 2)))]
            self.led(("signs", 2, toggles, 0, 2), 1, ("put", 1, 7), (toggle, ahead), script, None)

    def test_put_with_shakes_calls_what_the_signs_are_not(self):
        there = (own(1, (0, 0, 1)), own(2, (0, 1, 0)), own(3, (0, 0, 1)))
        for first, second in ((0, 0), (0, 1), (1, 0), (1, 1)):
            script = [read(("sign", 0, 1), first), read(("sign", 2, 1), second)]
            script += [read(("own", 0), there[0]), write(("sign", 1, 0), 0), read(("own", 2), there[2]),
                       write(("sign", 1, 2), 0)] + reads("own", there) * 2
            script += [write(("own", 1), (9, (1 - first, 0, 1 - second), 1, (1, 2, 3)))]
            self.led(("signs", 3, 1, 1, 2), 1, ("put", 1, 9), (3, 4, 5), script, None)

    def test_one_hand_alone(self):
        there = reads("own", ((4, (0,), 1, (3,)),)) * 2
        for toggles in (0, 1):
            for shakes in (0, 1):
                manner = ("signs", 1, toggles, shakes, 1)
                self.led(manner, 0, LOOK, (1,), there, (4,))
                self.led(manner, 0, ("put", 0, 5), (2,), there + [write(("own", 0), (5, (0,), toggles, (4,)))], None)


class TestShared(Leading):
    def test_without_toggles_and_shakes(self):
        first = reads("box", ((1, 0, 0), (2, 1, 1)))
        self.led(("shared", 2, 2, 0, 0, 1), 0, LOOK, (0, 0), first + reads("box", ((1, 0, 1), (3, 1, 0))), (1, 3))
        moved = first + reads("box", ((4, 1, 0), (2, 1, 1)))
        self.led(("shared", 2, 2, 0, 0, 1), 0, LOOK, (0, 0), moved + [read(("view", 1), (7, 8))], (7, 8))
        self.led(("shared", 2, 2, 0, 0, 1), 1, LOOK, (0, 0), moved, (4, 2))
        self.led(("shared", 2, 2, 0, 0, 2), 0, LOOK, (0, 0), moved + first + first, (1, 2))
        self.led(("shared", 2, 2, 0, 0, 2), 0, LOOK, (0, 0), moved * 2 + [read(("view", 1), (7, 8))], (7, 8))

    def test_a_writer_in_the_first_collect_alone_is_not_seen(self):
        script = reads("box", ((1, 1, 0),)) + reads("box", ((2, 0, 1),))
        self.led(("shared", 3, 1, 1, 0, 1), 0, LOOK, (0,), script, (2,))
        self.led(("shared", 3, 1, 1, 0, 1), 2, LOOK, (0,), script + [read(("view", 0), (5,))], (5,))

    def test_a_box_that_nobody_wrote_is_nobodys(self):
        self.led(("shared", 2, 1, 1, 1, 1), 0, LOOK, (0,),
                 [read(("call", 1, 0), 0), write(("sign", 0, 1), 0)] + reads("box", ((0, -1, 0),)) * 2
                 + [read(("call", 1, 0), 0)], (0,))

    def test_toggles(self):
        script = reads("box", ((1, 1, 0),)) + reads("box", ((2, 1, 1),))
        self.led(("shared", 2, 1, 0, 0, 1), 0, LOOK, (0,), script, (2,))
        self.led(("shared", 2, 1, 1, 0, 1), 0, LOOK, (0,), script + [read(("view", 1), (6,))], (6,))
        self.led(("shared", 2, 1, 1, 0, 1), 1, LOOK, (0,), script, (2,))
        back = reads("box", ((3, 1, 1),)) * 2
        self.led(("shared", 2, 1, 1, 0, 2), 0, LOOK, (0,), script + back, (3,))

    def test_shakes(self):
        def script(sign, call):
            return ([read(("call", 1, 0), sign), write(("sign", 0, 1), sign)] + reads("box", ((1, 1, 0), (2, -1, 0))) * 2
                    + [read(("call", 1, 0), call)])
        for toggles in (0, 1):
            manner = ("shared", 2, 2, toggles, 1, 1)
            for bit in (0, 1):
                self.led(manner, 0, LOOK, (0, 0), script(bit, bit), (1, 2))
                self.led(manner, 0, LOOK, (0, 0), script(bit, 1 - bit) + [read(("view", 1), (4, 4))], (4, 4))
        for moves in (2, 3, 4):
            manner = ("shared", 2, 2, 1, 1, moves)
            self.led(manner, 0, LOOK, (0, 0), script(0, 1) * (moves - 1) + script(1, 1), (1, 2))
            self.led(manner, 0, LOOK, (0, 0), script(0, 1) * moves + [read(("view", 1), (4, 4))], (4, 4))

    def test_seen_by_call_and_by_boxes_in_one_round_counts_once(self):
        moved = [read(("call", 1, 0), 0), write(("sign", 0, 1), 0)]
        moved += reads("box", ((1, 0, 0), (1, 0, 0))) + reads("box", ((1, 1, 0), (1, 1, 0))) + [read(("call", 1, 0), 1)]
        quiet = [read(("call", 1, 0), 1), write(("sign", 0, 1), 1)]
        quiet += reads("box", ((1, 1, 0), (9, 1, 0))) * 2 + [read(("call", 1, 0), 1)]
        self.led(("shared", 2, 2, 1, 1, 2), 0, LOOK, (0, 0), moved + quiet, (1, 9))

    def test_the_least_that_moved_in_rounds_enough(self):
        shakes = [read(("call", 0, 1), 0), write(("sign", 1, 0), 0), read(("call", 2, 1), 1), write(("sign", 1, 2), 1),
                  read(("call", 3, 1), 0), write(("sign", 1, 3), 0)]
        same = reads("box", ((5, 1, 1),)) * 2
        first = shakes + same + [read(("call", 0, 1), 0), read(("call", 2, 1), 0), read(("call", 3, 1), 1)]
        second = shakes + same + [read(("call", 0, 1), 1), read(("call", 2, 1), 0), read(("call", 3, 1), 1)]
        self.led(("shared", 4, 1, 0, 1, 1), 1, LOOK, (0,), second + [read(("view", 0), (3,))], (3,))
        self.led(("shared", 4, 1, 0, 1, 2), 1, LOOK, (0,), first + second + [read(("view", 2), (3,))], (3,))

    def test_put(self):
        same = reads("box", ((1, 0, 0), (2, -1, 0))) * 2
        for toggles, ahead, toggle in ((1, (0, 5), 1), (1, (3, 0), 0), (1, (4, 1), 1), (0, (0, 0), 0), (0, (1, 1), 0)):
            script = same + [write(("view", 1), (1, 2)), write(("box", 0), (7, 1, toggle))]
            self.led(("shared", 2, 2, toggles, 0, 2), 1, ("put", 0, 7), ahead, script, None)

    def test_put_goes_by_the_puts_at_its_own_place(self):
        same = reads("box", ((1, 0, 0), (2, -1, 0))) * 2
        for ahead, toggle in (((0, 0), 1), ((1, 0), 1), ((0, 1), 0), ((1, 1), 0), ((9, 2), 1)):
            script = same + [write(("view", 0), (1, 2)), write(("box", 1), (7, 0, toggle))]
            self.led(("shared", 2, 2, 1, 0, 2), 0, ("put", 1, 7), ahead, script, None)

    def test_put_with_shakes_calls_first(self):
        script = [read(("sign", 0, 1), 1), write(("call", 1, 0), 0), read(("sign", 2, 1), 0), write(("call", 1, 2), 1)]
        script += [read(("call", 0, 1), 1), write(("sign", 1, 0), 1), read(("call", 2, 1), 0), write(("sign", 1, 2), 0)]
        script += reads("box", ((6, 2, 1),)) * 2 + [read(("call", 0, 1), 1), read(("call", 2, 1), 0)]
        script += [write(("view", 1), (6,)), write(("box", 0), (8, 1, 1))]
        self.led(("shared", 3, 1, 1, 1, 3), 1, ("put", 0, 8), (2,), script, None)

    def test_put_hands_on_a_view_that_its_look_read(self):
        script = reads("box", ((1, -1, 0),)) + reads("box", ((2, 0, 1),)) + [read(("view", 0), (55,))]
        script += [write(("view", 1), (55,)), write(("box", 0), (8, 1, 1))]
        self.led(("shared", 2, 1, 1, 0, 1), 1, ("put", 0, 8), (0,), script, None)

    def test_one_hand_alone(self):
        there = reads("box", ((4, 0, 1), (0, -1, 0))) * 2
        for shakes in (0, 1):
            manner = ("shared", 1, 2, 1, shakes, 1)
            self.led(manner, 0, LOOK, (1, 0), there, (4, 0))
            self.led(manner, 0, ("put", 0, 5), (1, 0),
                     there + [write(("view", 0), (4, 0)), write(("box", 0), (5, 0, 0))], None)


class TestTables(Leading):
    PUTS = (
        (("write", 1, 7, 1), ("end",)),
        (("read", 0, ((0, 2), (3, 1)), 3), ("write", 1, 3, 2), ("write", 0, 9, 0), ("end",)),
    )
    LOOKS = (
        (("read", 1, (), 1), ("told", (1, 0))),
        (("read", 0, ((1, 2), (2, 0)), 1), ("told", (0, 0)), ("read", 1, ((0, 3),), 4), ("told", (0, 1)), ("told", (1, 1))),
    )
    MANNER = ("tables", 2, 2, PUTS, LOOKS)

    def test_each_hand_has_its_own_tables(self):
        self.led(self.MANNER, 0, ("put", 0, 1), (0, 0), [write(("box", 1), 7)], None)
        self.led(self.MANNER, 0, LOOK, (0, 0), [read(("box", 1), 4)], (1, 0))

    def test_jumps_of_a_put(self):
        put = ("put", 1, 1)
        self.led(self.MANNER, 1, put, (0, 5), [read(("box", 0), 4)], None)
        self.led(self.MANNER, 1, put, (0, 5), [read(("box", 0), 0), write(("box", 0), 9), read(("box", 0), 1)], None)
        self.led(self.MANNER, 1, put, (0, 5), [read(("box", 0), 3), write(("box", 1), 3), write(("box", 0), 9),
                                               read(("box", 0), 9)], None)

    def test_jumps_of_a_look(self):
        self.led(self.MANNER, 1, LOOK, (0, 0), [read(("box", 0), 0)], (0, 0))
        self.led(self.MANNER, 1, LOOK, (0, 0), [read(("box", 0), 1), read(("box", 1), 0)], (0, 1))
        self.led(self.MANNER, 1, LOOK, (0, 0), [read(("box", 0), 1), read(("box", 1), 9)], (1, 1))
        again = [read(("box", 0), 2)] * 30
        self.led(self.MANNER, 1, LOOK, (0, 0), again + [read(("box", 0), 3)], (0, 0))
