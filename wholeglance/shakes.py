"""How two hands shake: what the one calls, the other one answers with a sign."""

from wholeglance.manners import hands_of, number_of


def others_of(manner, hand):
    return [other for other in range(hands_of(manner)) if other != hand]


def shaken_by(manner, hand):
    return others_of(manner, hand) if number_of(manner, "shakes") == 1 else []


def shake_step(sources, targets, answer, reads):
    place = len(reads) // 2
    if len(reads) % 2 == 0:
        return ("read", sources[place])
    return ("write", targets[place], answer(reads[-1]))


def turned(bit):
    return 1 - bit
