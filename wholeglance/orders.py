"""Orders in which a story may have been, or all the rooms that show that there is none."""

from wholeglance.boxes import zeros
from wholeglance.orderrooms import ended_bits, leads, plan_of
from wholeglance.ways import way_to


def ordered(places, story):
    plan = plan_of(story)
    ended = ended_bits(story)
    first = (0, zeros(places))
    came = {first: None}
    still = [first]
    while len(still) > 0:
        room = still.pop()
        if room[0] & ended == ended:
            return ("order", way_to(came, room))
        for number, behind in leads(plan, room[0], room[1]):
            if behind not in came:
                came[behind] = (number, room)
                still.append(behind)
    return ("none", tuple([(rows_done(done, len(story)), state) for done, state in came]))


def rows_done(done, rows):
    return tuple([number for number in range(rows) if done & (1 << number) != 0])
