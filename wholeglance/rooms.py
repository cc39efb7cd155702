"""Rooms: all boxes, and how far each hand has come, ahead of a step and behind it."""

from wholeglance.asking import next_step
from wholeglance.boxes import first_boxes
from wholeglance.collects import collect_boxes
from wholeglance.errors import NoStep
from wholeglance.jobs import next_deed
from wholeglance.manners import hands_of, places_of


def begun(manner, jobs):
    return (first_boxes(manner), (((), (), ()),) * hands_of(manner))


def may_step(manner, jobs, room):
    return [hand for hand in range(hands_of(manner)) if deed_of(manner, jobs, room, hand) is not None]


def deed_of(manner, jobs, room, hand):
    # A hand that isn't there has nothing to do, as one whose job is done.
    if hand < 0 or hand >= hands_of(manner):
        return None
    return next_deed(hand, jobs[hand], room[1][hand][0])


def stepped(manner, jobs, room, hand):
    return stepped_at(manner, jobs, room, hand, 0)


def walked(manner, jobs, weaving):
    return rooms_along(manner, jobs, weaving)[-1]


def rooms_along(manner, jobs, weaving):
    rooms = [begun(manner, jobs)]
    for place, hand in enumerate(weaving):
        rooms.append(stepped_at(manner, jobs, rooms[place], hand, place))
    return rooms


def stepped_at(manner, jobs, room, hand, place):
    deed = deed_of(manner, jobs, room, hand)
    if deed is None:
        raise NoStep(place)
    ahead = puts_done(manner, hand, jobs[hand], room[1][hand][0])
    step = next_step(manner, hand, deed, ahead, room[1][hand][1])
    boxes = boxes_behind(room[0], step)
    own = row_behind(manner, room, hand, deed, ahead, step)
    rows = room[1][:hand] + (own,) + room[1][hand + 1:]
    if manner[0] == "tables":
        return (boxes, rows)
    state = standing(manner, boxes)
    return (boxes, tuple([with_state(row, state) for row in rows]))


def row_behind(manner, room, hand, deed, ahead, step):
    told = room[1][hand][0]
    reads = room[1][hand][1] + (read_by(room, step),)
    end = next_step(manner, hand, deed, ahead, reads)
    if end[0] == "told":
        return (told + (end[1],), (), ())
    return (told, reads, since_begin(manner, room, hand, deed))


def puts_done(manner, hand, job, told):
    # Each put told None, and it alone.
    deeds = [next_deed(hand, job, told[:number]) for number, thing in enumerate(told) if thing is None]
    at_places = [deed[1] for deed in deeds]
    return tuple([at_places.count(place) for place in range(places_of(manner))])


def read_by(room, step):
    return dict(room[0])[step[1]] if step[0] == "read" else None


def boxes_behind(boxes, step):
    if step[0] == "read":
        return boxes
    return tuple([(box, step[2]) if box == step[1] else (box, content) for box, content in boxes])


def since_begin(manner, room, hand, deed):
    if deed[0] != "look" or manner[0] == "tables":
        return ()
    row = room[1][hand]
    return row[2] if len(row[1]) > 0 else (state_of(manner, room),)


def with_state(row, state):
    # Only while a look is under way there are states in a row, and then at least one.
    if len(row[2]) == 0 or state in row[2]:
        return row
    return (row[0], row[1], row[2] + (state,))


def state_of(manner, room):
    return standing(manner, room[0])


def standing(manner, boxes):
    # A put writes its value with its last step, so the values in the boxes are those that stand.
    contents = dict(boxes)
    collected = [contents[box] for box in collect_boxes(manner)]
    if manner[0] == "once":
        return tuple(collected)
    return tuple([content[0] for content in collected])
