"""The job by which numbers come closer, round by round, as fractions (top, bottom)."""


def closer_course(hand, number, rounds, told):
    own = [(number, 1)]
    for state in told[1::2]:
        own.append(middle([own[-1]] + others_of_round(hand, len(own), state)))
    if len(own) > rounds:
        return (None, own[rounds])
    if len(told) % 2 == 0:
        return (("put", hand, tuple(own)), None)
    return (("look",), None)


def others_of_round(hand, count, state):
    there = [value for place, value in enumerate(state) if place != hand and isinstance(value, tuple)]
    return [value[count - 1] for value in there if len(value) >= count]


def middle(fractions):
    least = fractions[0]
    greatest = fractions[0]
    for fraction in fractions:
        if is_less(fraction, least):
            least = fraction
        if is_less(greatest, fraction):
            greatest = fraction
    return half_sum(least, greatest)


def is_less(one, other):
    # Bottoms are above 0, so they may be multiplied over.
    return one[0] * other[1] < other[0] * one[1]


def half_sum(one, other):
    return lowest_terms(one[0] * other[1] + other[0] * one[1], 2 * one[1] * other[1])


def lowest_terms(top, bottom):
    divisor = common_divisor(abs(top), bottom)
    return (top // divisor, bottom // divisor)


def common_divisor(one, other):
    while other != 0:
        rest = one % other
        one = other
        other = rest
    return one
