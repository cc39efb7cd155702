"""Weavings that hide a put: with two boxes fewer than hands no tables ever tell right."""

from wholeglance.asking import next_step
from wholeglance.boxes import zeros
from wholeglance.errors import NoEnd
from wholeglance.manners import hands_of
from wholeglance.rooms import begun, deed_of, stepped

MOST_STEPS = 300


def hidden(manner):
    jobs = one_deed_each(hands_of(manner))
    room = begun(manner, jobs)
    weaving = ()
    covered = []
    # One hand after the other stops where it is about to write a box that none ahead of it is about to write. There are
    # more hands than boxes, so at last one puts without writing any other box than those.
    run = run_alone(manner, jobs, room, 0, covered)
    while run[1] is not None:
        weaving = weaving + (len(covered),) * run[0]
        covered.append(run[1])
        room = run[2]
        run = run_alone(manner, jobs, room, len(covered), covered)
    return without_order(manner, jobs, room, weaving, (len(covered),) * run[0])


def one_deed_each(hands):
    puts = [("deeds", (("put", hand, 1),)) for hand in range(hands - 1)]
    return tuple(puts) + (("deeds", (("look",),)),)


def run_alone(manner, jobs, room, hand, covered):
    # How many steps, the box outside of those covered that it is about to write, None at the deed's end, and the room.
    deed = deed_of(manner, jobs, room, hand)
    steps = 0
    while deed_of(manner, jobs, room, hand) is not None:
        step = next_step(manner, hand, deed, zeros(hands_of(manner)), room[1][hand][1])
        if step[0] == "write" and step[1] not in covered:
            return (steps, step[1], room)
        if steps == MOST_STEPS:
            raise NoEnd(hand)
        room = stepped(manner, jobs, room, hand)
        steps += 1
    return (steps, None, room)


def without_order(manner, jobs, room, weaving, put):
    # All that the put wrote is written over: the look tells the same where the put was done and where it never began.
    hand = put[0]
    looker = hands_of(manner) - 1
    writers = tuple(range(hand))
    for writer in writers:
        room = stepped(manner, jobs, room, writer)
    look = run_alone(manner, jobs, room, looker, [box for box, content in room[0]])
    ending = writers + (looker,) * look[0]
    state = look[2][1][looker][0][0]
    if state[hand] == 0:
        return (jobs, weaving + put + ending)
    return (jobs, weaving + ending)
