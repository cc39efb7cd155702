"""Weavings told by scripts, whose rows say of one hand after the other how far it goes, alone."""

from wholeglance.rooms import begun, stepped


def weaving_of(manner, jobs, script):
    room = begun(manner, jobs)
    weaving = []
    for hand, goal in script:
        for step in range(steps_to(manner, jobs, room, hand, goal)):
            room = stepped(manner, jobs, room, hand)
            weaving.append(hand)
    return tuple(weaving)


def steps_to(manner, jobs, room, hand, goal):
    if goal == "whole":
        return steps_left(manner, jobs, room, hand)
    if goal == "brink":
        return steps_left(manner, jobs, room, hand) - 1
    return goal


def steps_left(manner, jobs, room, hand):
    done = len(room[1][hand][0])
    steps = 0
    while len(room[1][hand][0]) == done:
        room = stepped(manner, jobs, room, hand)
        steps += 1
    return steps
