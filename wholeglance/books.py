"""Books: all rooms to which any weaving leads, or a weaving that breaks them."""

from wholeglance.rooms import begun, may_step, stepped
from wholeglance.ways import way_to
from wholeglance.wrongsteps import tells_wrong


def book(manner, jobs, most):
    first = begun(manner, jobs)
    came = {first: None}
    rooms = [first]
    place = 0
    while place < len(rooms):
        room = rooms[place]
        for hand in may_step(manner, jobs, room):
            behind = stepped(manner, jobs, room, hand)
            if tells_wrong(manner, jobs, room, hand, behind):
                return ("breaks", way_to(came, room) + (hand,))
            if behind not in came:
                if len(rooms) >= most:
                    return ("open", None)
                came[behind] = (hand, room)
                rooms.append(behind)
        place += 1
    return ("holds", tuple(rooms))
