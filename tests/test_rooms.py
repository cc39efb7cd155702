import random

from tests.asking import Asking
from tests.samples import all_plain_manners, some_manners, tables
from tests.woven import Woven, drawn_jobs, drawn_weaving
from wholeglance.asking import next_step
from wholeglance.boxes import first_boxes
from wholeglance.errors import GlanceError, NoStep
from wholeglance.rooms import begun, may_step, state_of, stepped, walked

LOOK = ("look",)
IDLE = ((), (), ())


def deeds(*rows):
    return tuple(("deeds", row) for row in rows)


def put(place, value):
    return ("put", place, value)


class TestBegun(Asking):
    def test_first_boxes_and_nothing_done(self):
        self.assertEqual(self.asked(begun, ("once", 2), deeds((LOOK,), ())),
                         (((("own", 0), 0), (("own", 1), 0)), (IDLE, IDLE)))
        for hands in (1, 2, 5):
            for manner in some_manners(hands):
                jobs = deeds(*(((LOOK,),) * hands))
                self.assertEqual(self.asked(begun, manner, jobs), (first_boxes(manner), (IDLE,) * hands))


class TestMayStep(Asking):
    def test_hands_with_a_deed_to_come(self):
        manner = ("once", 4)
        jobs = deeds((LOOK,), (), (put(2, 1), put(2, 2)), (put(3, 1),))
        room = begun(manner, jobs)
        self.assertEqual(self.asked(may_step, manner, jobs, room), [0, 2, 3])
        room = stepped(manner, jobs, room, 3)
        self.assertEqual(may_step(manner, jobs, room), [0, 2])
        room = stepped(manner, jobs, room, 2)
        self.assertEqual(may_step(manner, jobs, room), [0, 2])
        room = stepped(manner, jobs, room, 2)
        room = stepped(manner, jobs, room, 0)
        self.assertEqual(may_step(manner, jobs, room), [0])
        for _ in range(3):
            room = stepped(manner, jobs, room, 0)
        self.assertEqual(may_step(manner, jobs, room), [])

    def test_list_told_is_the_askers_own(self):
        jobs = deeds((LOOK,), (LOOK,))
        room = begun(("once", 2), jobs)
        told = may_step(("once", 2), jobs, room)
        self.assertIsInstance(told, list)
        told.clear()
        self.assertEqual(may_step(("once", 2), jobs, room), [0, 1])

    def test_jobs_that_go_on_by_what_was_told(self):
        manner = ("once", 2)
        jobs = (("least", 4, 2), ("least", 3, 2))
        room = walked(manner, jobs, (0,) + (0, 0) * 5)
        self.assertEqual(room[1][0][0], (None,) + (((4,), 0),) * 5)
        self.assertEqual(may_step(manner, jobs, room), [0, 1])
        room = walked(manner, jobs, (0, 1, 0, 0))
        self.assertEqual(may_step(manner, jobs, room), [1])


class TestStepped(Asking):
    def rooms(self, manner, jobs, rooms):
        """The rooms behind each of these steps; pairs of hand and room."""
        room = begun(manner, jobs)
        for hand, behind in rooms:
            room = self.asked(stepped, manner, jobs, room, hand)
            self.assertEqual(room, behind)

    def test_once_step_by_step(self):
        zero, one, two = (("own", 0), 0), (("own", 0), 6), (("own", 1), 5)
        start = (("own", 1), 0)
        self.rooms(("once", 2), deeds((LOOK, put(0, 6)), (put(1, 5),)), [
            (0, ((zero, start), (((), (0,), ((0, 0),)), IDLE))),
            (1, ((zero, two), (((), (0,), ((0, 0), (0, 5))), ((None,), (), ())))),
            (0, ((zero, two), ((((0, 5),), (), ()), ((None,), (), ())))),
            (0, ((one, two), (((((0, 5)), None), (), ()), ((None,), (), ())))),
        ])

    def test_twice_step_by_step(self):
        self.rooms(("twice", 1, 0), deeds((put(0, 6), LOOK)), [
            (0, (((("own", 0), (6, 1)),), (((None,), (), ()),))),
            (0, (((("own", 0), (6, 1)),), (((None,), ((6, 1),), ((6,),)),))),
            (0, (((("own", 0), (6, 1)),), (((None, (6,)), (), ()),))),
        ])

    def test_a_puts_own_look_keeps_no_states(self):
        first = (0, 0, (0,))
        self.rooms(("handed", 1, 0, 1), deeds((put(0, 6),)), [
            (0, (((("own", 0), first),), (((), (first,), ()),))),
            (0, (((("own", 0), first),), (((), (first, first), ()),))),
            (0, (((("own", 0), (6, 1, (0,))),), (((None,), (), ()),))),
        ])

    def test_a_write_within_a_deed_is_read_as_none(self):
        own = (0, (0, 0), 0, (0, 0))
        boxes = ((("own", 0), own), (("own", 1), own), (("sign", 0, 1), 0), (("sign", 1, 0), 0))
        self.rooms(("signs", 2, 1, 1, 2), deeds((LOOK,), ()), [
            (0, (boxes, (((), (own,), ((0, 0),)), IDLE))),
            (0, (boxes, (((), (own, None), ((0, 0),)), IDLE))),
            (0, (boxes, (((), (own, None, own), ((0, 0),)), IDLE))),
        ])

    def test_tables_keep_no_states(self):
        looks = ((("read", 0, (), 1), ("read", 0, ((1, 2),), 3), ("told", (1, 1)), ("told", (0, 0))),) * 2
        manner = ("tables", 2, 1, ((("write", 0, 1, 1), ("end",)),) * 2, looks)
        self.rooms(manner, deeds((LOOK,), (put(1, 1),)), [
            (0, (((("box", 0), 0),), (((), (0,), ()), IDLE))),
            (1, (((("box", 0), 1),), (((), (0,), ()), ((None,), (), ())))),
            (0, (((("box", 0), 1),), ((((1, 1),), (), ()), ((None,), (), ())))),
        ])

    def test_states_that_come_back_are_kept_once_where_they_first_stood(self):
        manner = ("once", 3)
        jobs = deeds((LOOK,), (put(1, 5), put(1, 0), put(1, 7), put(1, 5)), (LOOK,))
        room = walked(manner, jobs, (0, 1, 1, 2, 1, 1))
        self.assertEqual(room[1][0][2], ((0, 0, 0), (0, 5, 0), (0, 7, 0)))
        self.assertEqual(room[1][2][2], ((0, 0, 0), (0, 7, 0), (0, 5, 0)))

    def test_the_state_ahead_of_the_first_step_is_the_first(self):
        manner = ("once", 2)
        jobs = deeds((LOOK,), (put(1, 5), put(1, 6)))
        self.assertEqual(walked(manner, jobs, (1, 0))[1][0][2], ((0, 5),))
        self.assertEqual(walked(manner, jobs, (1, 0, 1))[1][0][2], ((0, 5), (0, 6)))

    def test_a_put_of_what_stands_adds_no_state(self):
        jobs = deeds((LOOK,), (put(1, 0),))
        self.assertEqual(walked(("once", 2), jobs, (0, 1))[1][0][2], ((0, 0),))

    def test_ahead_counts_ones_own_puts_at_each_place(self):
        manner = ("shared", 2, 2, 1, 0, 1)
        jobs = deeds((put(0, 5), put(1, 6), put(0, 7), put(1, 8), put(1, 9)), ())
        toggles = []
        room = begun(manner, jobs)
        for _ in range(5):
            for _ in range(6):
                room = stepped(manner, jobs, room, 0)
            toggles.append((dict(room[0])[("box", 0)], dict(room[0])[("box", 1)]))
        self.assertEqual(toggles, [((5, 0, 1), (0, -1, 0)), ((5, 0, 1), (6, 0, 1)), ((7, 0, 0), (6, 0, 1)),
                                   ((7, 0, 0), (8, 0, 0)), ((7, 0, 0), (9, 0, 1))])

    def test_looks_are_not_counted_as_puts(self):
        room = walked(("twice", 1, 0), deeds((LOOK, put(0, 5), LOOK, put(0, 6))), (0,) * 6)
        self.assertEqual(room[0], ((("own", 0), (6, 2)),))

    def refused(self, place, function, *things):
        with self.assertRaises(NoStep) as taken:
            function(*things)
        self.assertEqual(taken.exception.place, place)
        self.assertIsInstance(taken.exception, GlanceError)

    def test_steps_that_can_not_be(self):
        for manner in some_manners(2):
            jobs = deeds((), (LOOK,))
            room = begun(manner, jobs)
            for hand in (0, 2, 3, 9, -1, -2):
                self.refused(0, stepped, manner, jobs, room, hand)
            while may_step(manner, jobs, room):
                room = stepped(manner, jobs, room, 1)
            self.refused(0, stepped, manner, jobs, room, 1)

    def test_a_weaving_is_refused_at_the_first_step_that_can_not_be(self):
        manner = ("once", 2)
        jobs = deeds((put(0, 1), put(0, 2)), (LOOK,))
        self.refused(2, walked, manner, jobs, (0, 0, 0, 1, 0))
        self.refused(0, walked, manner, jobs, (2,))
        self.refused(0, walked, manner, jobs, (-1,))
        self.refused(4, walked, manner, jobs, (0, 1, 0, 1, 1))
        self.refused(1, walked, manner, jobs, (0, 7, 7))
        self.assertEqual(walked(manner, jobs, (0, 1, 0, 1))[1], (((None, None), (), ()), (((1, 0),), (), ())))


class TestStateOf(Asking):
    def test_of_the_first_room_noughts(self):
        for manner in all_plain_manners():
            places = manner[2] if manner[0] == "shared" else manner[1]
            room = begun(manner, deeds(*(((),) * manner[1])))
            self.assertEqual(self.asked(state_of, manner, room), (0,) * places)

    def test_a_value_stands_from_the_last_step_of_its_put_on(self):
        for manner in all_plain_manners():
            if manner[1] > 3:
                continue
            shared = manner[0] == "shared"
            hand = manner[1] - 1
            place = 0 if shared else hand
            places = manner[2] if shared else manner[1]
            jobs = deeds(*((((),) * hand) + ((put(place, (4, 4)),),)))
            room = begun(manner, jobs)
            while may_step(manner, jobs, room):
                self.assertEqual(state_of(manner, room), (0,) * places)
                room = stepped(manner, jobs, room, hand)
            self.assertEqual(state_of(manner, room), (0,) * place + ((4, 4),) + (0,) * (places - place - 1))

    def test_several_hands_at_one_place(self):
        manner = ("shared", 2, 2, 1, 0, 2)
        jobs = deeds((put(1, 5),), (put(1, 6),))
        self.assertEqual(state_of(manner, walked(manner, jobs, (0,) * 6 + (1,) * 6)), (0, 6))
        self.assertEqual(state_of(manner, walked(manner, jobs, (0,) * 5 + (1,) * 6)), (0, 6))
        self.assertEqual(state_of(manner, walked(manner, jobs, (0,) * 5 + (1,) * 6 + (0,))), (0, 5))


class TestByWords(Asking):
    def walk(self, manner, jobs, weaving):
        woven = Woven(manner, jobs)
        room = begun(manner, jobs)
        for hand in weaving:
            self.assertEqual(may_step(manner, jobs, room), woven.hands())
            woven.step(hand)
            room = stepped(manner, jobs, room, hand)
            self.assertEqual(room, woven.room(), (manner, jobs, weaving))
            if manner[0] != "tables":
                self.assertEqual(state_of(manner, room), woven.states[-1])
        self.assertEqual(walked(manner, jobs, weaving), room)
        self.assertEqual(repr(walked(manner, jobs, weaving)), repr(woven.room()))

    def test_rooms_of_drawn_weavings(self):
        chance = random.Random(41)
        for manner in all_plain_manners()[::3] + [tables(2, 1), tables(3, 2)]:
            jobs = drawn_jobs(manner, chance)
            self.walk(manner, jobs, drawn_weaving(manner, jobs, chance, 90))

    def test_first_step_is_the_one_that_is_asked_for(self):
        for manner in some_manners(3):
            jobs = deeds((LOOK,), (put(0 if manner[0] == "shared" else 1, 1),), (LOOK,))
            room = begun(manner, jobs)
            for hand in range(3):
                step = next_step(manner, hand, jobs[hand][1][0], (0,) * 3, ())
                behind = stepped(manner, jobs, room, hand)
                if step[0] == "read":
                    self.assertEqual(behind[0], room[0])
                else:
                    self.assertEqual(dict(behind[0])[step[1]], step[2])
