"""The steps of signs, where small signs stand in the place of endless numbers."""

from wholeglance.manners import hands_of, number_of
from wholeglance.rounds import last_round
from wholeglance.shakes import others_of, shake_step, shaken_by, turned
from wholeglance.writes import toggle_of, write_step


def signs_look(manner, hand, reads):
    # Told are the next step and how many of the reads are the look's own: behind a put's own look there are others.
    hands = hands_of(manner)
    span = 2 * len(shaken_by(manner, hand)) + 2 * hands
    ending = last_round(span, span, number_of(manner, "moves"), reads, lambda part: moved_in(manner, hand, part))
    if ending is None:
        return (round_step(manner, hand, reads[len(reads) // span * span:]), len(reads))
    used = ending[0] + span
    second = reads[used - hands:used]
    if ending[1] is None:
        return (("told", tuple([content[0] for content in second])), used)
    return (("told", second[ending[1]][3]), used)


def round_step(manner, hand, reads):
    others = shaken_by(manner, hand)
    if len(reads) < 2 * len(others):
        sources = [("own", other) for other in others]
        targets = [("sign", hand, other) for other in others]
        return shake_step(sources, targets, lambda content: content[1][hand], reads)
    return ("read", ("own", (len(reads) - 2 * len(others)) % hands_of(manner)))


def moved_in(manner, hand, reads):
    hands = hands_of(manner)
    first = reads[-2 * hands:-hands]
    second = reads[-hands:]
    moved = []
    if number_of(manner, "toggles") == 1:
        moved = [other for other in others_of(manner, hand) if first[other][2] != second[other][2]]
    for place, other in enumerate(shaken_by(manner, hand)):
        sign = reads[2 * place][1][hand]
        if first[other][1][hand] != sign or second[other][1][hand] != sign:
            moved.append(other)
    return sorted(set(moved))


def signs_put(manner, hand, deed, ahead, reads):
    others = shaken_by(manner, hand)
    if len(reads) < len(others):
        return ("read", ("sign", others[len(reads)], hand))
    rest = reads[len(others):]
    look = signs_look(manner, hand, rest)
    if look[0][0] != "told":
        return look[0]
    calls = calls_of(hands_of(manner), others, reads)
    content = (deed[2], calls, toggle_of(manner, deed, ahead), look[0][1])
    return write_step([("write", ("own", hand), content)], rest[look[1]:])


def calls_of(hands, others, reads):
    calls = [0] * hands
    for other, sign in zip(others, reads):
        calls[other] = turned(sign)
    return tuple(calls)
