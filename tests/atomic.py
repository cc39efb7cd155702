"""Whole jobs, their deeds done each at one moment."""

import random

from wholeglance.jobs import answer_of, next_deed


def begun(hands):
    return (0,) * hands, ((),) * hands


def done(jobs, room, hand):
    """The room behind the next deed of this hand, None where there is none."""
    state, told = room
    deed = next_deed(hand, jobs[hand], told[hand])
    if deed is None:
        return None
    found = state
    if deed[0] == "put":
        state = state[:deed[1]] + (deed[2],) + state[deed[1] + 1:]
        found = None
    return state, told[:hand] + (told[hand] + (found,),) + told[hand + 1:]


def waits(room, hand, behind):
    """Whether a look told the same as the one ahead of it, so that nothing new can come of it."""
    ahead = room[1][hand]
    return len(ahead) > 0 and ahead[-1] is not None and ahead[-1] == behind[1][hand][-1]


def all_rooms(jobs):
    """Every room to which any order of deeds leads, looks that tell the same again left out."""
    first = begun(len(jobs))
    seen = {first: True}
    still = [first]
    while still:
        room = still.pop()
        for hand in range(len(jobs)):
            behind = done(jobs, room, hand)
            if behind is not None and not waits(room, hand, behind) and behind not in seen:
                seen[behind] = True
                still.append(behind)
    return list(seen)


def woven_rooms(jobs, seed, most):
    """The rooms of one order of deeds; some hands stop for ever on the way."""
    chance = random.Random(seed)
    room = begun(len(jobs))
    stops = [chance.choice((most, most, chance.randrange(8))) for _ in jobs]
    found = [room]
    for _ in range(most):
        hand = chance.randrange(len(jobs))
        behind = done(jobs, room, hand) if len(room[1][hand]) < stops[hand] else None
        if behind is not None:
            room = behind
            found.append(room)
    return found


def answers(jobs, room):
    return [answer_of(hand, job, told) for hand, (job, told) in enumerate(zip(jobs, room[1]))]


def given(jobs, room):
    return [answer for answer in answers(jobs, room) if answer is not None]


def began(room):
    return len([told for told in room[1] if told])
