"""When a step tells wrong."""

from wholeglance.fitting import fit
from wholeglance.rooms import deed_of, since_begin


def tells_wrong(manner, jobs, room, hand, behind):
    return ends_wrong_look(manner, jobs, room, hand, behind) or not fit(manner, jobs, behind)


def ends_wrong_look(manner, jobs, room, hand, behind):
    told = behind[1][hand][0]
    deed = deed_of(manner, jobs, room, hand)
    if deed[0] != "look" or len(told) == len(room[1][hand][0]):
        return False
    # No step of a look changes what stands, so the states ahead of its last step are all of them.
    return told[-1] not in since_begin(manner, room, hand, deed)
