"""Whether a thing is a book that holds, or a weaving that breaks."""

from wholeglance.errors import NoStep
from wholeglance.kinds import is_whole, is_within
from wholeglance.manners import hands_of
from wholeglance.rooms import begun, may_step, rooms_along, stepped
from wholeglance.wrongsteps import tells_wrong


def shows_book(manner, jobs, thing):
    if not isinstance(thing, tuple):
        return False
    first = begun(manner, jobs)
    # Each room that was come to, and whether it is in the book by now.
    come_to = {first: False}
    largest = parts_of(first)
    for room in thing:
        # Only a room that was come to is stepped from: others may be of any form.
        if not is_plain(room, largest) or come_to.get(room, True):
            return False
        come_to[room] = True
        behind = rooms_behind(manner, jobs, room)
        if behind is None:
            return False
        for other in behind:
            if other not in come_to:
                come_to[other] = False
                largest = max(largest, parts_of(other))
    return all(come_to.values())


def rooms_behind(manner, jobs, room):
    # None where a step tells wrong.
    found = []
    for hand in may_step(manner, jobs, room):
        behind = stepped(manner, jobs, room, hand)
        if tells_wrong(manner, jobs, room, hand, behind):
            return None
        found.append(behind)
    return found


def parts_of(room):
    parts = 0
    still = [room]
    while len(still) > 0:
        part = still.pop()
        parts += 1
        if isinstance(part, tuple):
            still.extend(part)
    return parts


def is_plain(thing, most):
    # Whether it has but kinds that rooms have, by which alone it may be compared; of what is larger it isn't asked on.
    parts = 0
    still = [thing]
    while len(still) > 0:
        part = still.pop()
        parts += 1
        if parts > most:
            return False
        if isinstance(part, tuple):
            still.extend(part)
        elif not (is_whole(part) or isinstance(part, str) or part is None):
            return False
    return True


def shows_break(manner, jobs, thing):
    if not isinstance(thing, tuple) or len(thing) == 0:
        return False
    if not all([is_within(hand, 0, hands_of(manner) - 1) for hand in thing]):
        return False
    try:
        rooms = rooms_along(manner, jobs, thing)
    except NoStep:
        return False
    return tells_wrong(manner, jobs, rooms[-2], thing[-1], rooms[-1])
