"""The way by which a search came to a room."""


def way_to(came, room):
    # Each room is kept with the move that led to it and the room ahead of that, the first one with None.
    way = []
    while came[room] is not None:
        way.append(came[room][0])
        room = came[room][1]
    return tuple(reversed(way))
