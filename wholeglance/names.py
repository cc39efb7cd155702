"""The job that finds a new name, unlike the others' and small."""


def name_course(hand, own, told):
    number = 1
    for state in told[1::2]:
        others = other_pairs(hand, state)
        taken = [pair[1] for pair in others]
        if number not in taken:
            return (None, number)
        rank = 1 + len([pair for pair in others if pair[0] < own])
        number = free_number(rank, taken)
    if len(told) % 2 == 0:
        return (("put", hand, (own, number)), None)
    return (("look",), None)


def other_pairs(hand, state):
    others = [value for place, value in enumerate(state) if place != hand]
    # A place where nothing was put yet has a nought, without an id or a second.
    return [value for value in others if isinstance(value, tuple) and len(value) > 1]


def free_number(rank, taken):
    number = 0
    while rank > 0:
        number += 1
        if number not in taken:
            rank -= 1
    return number
