"""The steps of shared, where several hands put at one place."""

from wholeglance.collects import collect_boxes
from wholeglance.manners import number_of, places_of
from wholeglance.rounds import last_round
from wholeglance.shakes import others_of, shake_step, shaken_by, turned
from wholeglance.writes import toggle_of, write_step


def shared_look(manner, hand, reads):
    # Told are the next step and how many of the reads are the look's own: behind a put's own look there are others.
    span = 3 * len(shaken_by(manner, hand)) + 2 * places_of(manner)
    ending = last_round(span, span, number_of(manner, "moves"), reads, lambda part: moved_in(manner, hand, part))
    if ending is None:
        return (round_step(manner, hand, reads[len(reads) // span * span:]), len(reads))
    used = ending[0] + span
    if ending[1] is None:
        return (("told", tuple([content[0] for content in second_collect(manner, hand, reads[:used])])), used)
    if len(reads) == used:
        return (("read", ("view", ending[1])), used)
    return (("told", reads[used]), used + 1)


def round_step(manner, hand, reads):
    calls = [("call", other, hand) for other in shaken_by(manner, hand)]
    if len(reads) < 2 * len(calls):
        signs = [("sign", hand, other) for other in shaken_by(manner, hand)]
        return shake_step(calls, signs, lambda call: call, reads)
    collected = 2 * collect_boxes(manner)
    return ("read", (collected + tuple(calls))[len(reads) - 2 * len(calls)])


def second_collect(manner, hand, reads):
    behind = len(reads) - len(shaken_by(manner, hand))
    return reads[behind - places_of(manner):behind]


def moved_in(manner, hand, reads):
    shaken = shaken_by(manner, hand)
    opening = 2 * len(shaken)
    calls = reads[len(reads) - len(shaken):]
    moved = [other for other, sign, call in zip(shaken, reads[:opening:2], calls) if sign != call]
    first = reads[opening:opening + places_of(manner)]
    second = second_collect(manner, hand, reads)
    others = others_of(manner, hand)
    for before, behind in zip(first, second):
        if behind[1] in others and is_rewritten(manner, before, behind):
            moved.append(behind[1])
    return sorted(set(moved))


def is_rewritten(manner, before, behind):
    if before[1] != behind[1]:
        return True
    return number_of(manner, "toggles") == 1 and before[2] != behind[2]


def shared_put(manner, hand, deed, ahead, reads):
    others = shaken_by(manner, hand)
    opening = 2 * len(others)
    if len(reads) < opening:
        signs = [("sign", other, hand) for other in others]
        calls = [("call", hand, other) for other in others]
        return shake_step(signs, calls, turned, reads)
    rest = reads[opening:]
    look = shared_look(manner, hand, rest)
    if look[0][0] != "told":
        return look[0]
    written = (deed[2], hand, toggle_of(manner, deed, ahead))
    writes = [("write", ("view", hand), look[0][1]), ("write", ("box", deed[1]), written)]
    return write_step(writes, rest[look[1]:])
