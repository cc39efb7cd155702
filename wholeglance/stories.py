"""Stories: when each deed of a weaving began and ended, and what it told."""

from wholeglance.rooms import deed_of, rooms_along, state_of


def story(manner, jobs, weaving):
    rooms = rooms_along(manner, jobs, weaving)
    rows = []
    latest = {}
    for place, hand in enumerate(weaving):
        if len(rooms[place][1][hand][1]) == 0:
            latest[hand] = len(rows)
            rows.append((hand, deed_of(manner, jobs, rooms[place], hand), place, None, None))
        behind = rooms[place + 1][1][hand]
        if len(behind[1]) == 0:
            rows[latest[hand]] = rows[latest[hand]][:3] + (place + 1, behind[0][-1])
    return tuple(rows)


def stood(manner, jobs, weaving):
    return tuple([state_of(manner, room) for room in rooms_along(manner, jobs, weaving)])
