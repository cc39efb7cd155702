"""The boxes of each manner, and what is in them at first."""

from wholeglance.manners import hands_of, number_of, places_of


def first_boxes(manner):
    # Boxes are unlike, so rising by pairs is rising by boxes and contents are never compared.
    return tuple(sorted(listed_boxes(manner)))


def listed_boxes(manner):
    word = manner[0]
    if word == "tables":
        return single_boxes("box", number_of(manner, "boxes"), 0)
    if word == "shared":
        return shared_boxes(manner)
    boxes = single_boxes("own", hands_of(manner), own_content(manner))
    if word == "signs":
        return boxes + shake_boxes(manner, ("sign",))
    return boxes


def shared_boxes(manner):
    boxes = single_boxes("box", places_of(manner), (0, -1, 0))
    views = single_boxes("view", hands_of(manner), zeros(places_of(manner)))
    return boxes + views + shake_boxes(manner, ("call", "sign"))


def own_content(manner):
    word = manner[0]
    if word == "once":
        return 0
    if word == "twice":
        return (0, 0)
    nothing_seen = zeros(hands_of(manner))
    if word == "handed":
        return (0, 0, nothing_seen)
    return (0, nothing_seen, 0, nothing_seen)


def shake_boxes(manner, words):
    boxes = []
    if number_of(manner, "shakes") == 1:
        for word in words:
            boxes.extend(crossed_boxes(word, hands_of(manner)))
    return boxes


def single_boxes(word, count, content):
    return [((word, number), content) for number in range(count)]


def crossed_boxes(word, hands):
    boxes = []
    for one in range(hands):
        boxes.extend([((word, one, other), 0) for other in range(hands) if other != one])
    return boxes


def zeros(count):
    return (0,) * count
