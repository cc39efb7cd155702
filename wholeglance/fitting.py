"""Whether the answers of a room fit one another and the jobs."""

from wholeglance.answers import answers_of
from wholeglance.manners import hands_of


def fit(manner, jobs, room):
    given = [answer for answer in answers_of(jobs, room) if answer is not None]
    word = jobs[0][0]
    if word == "name":
        return names_fit(given, len([row for row in room[1] if len(row[0]) > 0]))
    if word == "least":
        return leasts_fit(given, [job[1] for job in jobs], hands_of(manner) - jobs[0][2] + 1)
    if word == "closer":
        return closers_fit(given, [job[1] for job in jobs], jobs[0][2])
    return True


def names_fit(names, tellers):
    if len(set(names)) < len(names):
        return False
    return all([1 <= name <= 2 * tellers - 1 for name in names])


def leasts_fit(leasts, numbers, most):
    return all([least in numbers for least in leasts]) and len(set(leasts)) <= most


def closers_fit(fractions, numbers, rounds):
    least = min(numbers)
    greatest = max(numbers)
    if not all([least * bottom <= top <= greatest * bottom for top, bottom in fractions]):
        return False
    for fraction in fractions:
        if not all([are_close(fraction, other, greatest - least, rounds) for other in fractions]):
            return False
    return True


def are_close(one, other, breadth, rounds):
    # Bottoms are above 0, so all is multiplied by them, and by 2 for each round, in the place of dividing.
    apart = abs(one[0] * other[1] - other[0] * one[1])
    return apart * (1 << rounds) <= breadth * one[1] * other[1]
