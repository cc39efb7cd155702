"""Steps that tell wrong, fitting answers and books, by the document's words."""

from fractions import Fraction

from tests.woven import Woven
from wholeglance.jobs import answer_of


def replayed(manner, jobs, weaving):
    woven = Woven(manner, jobs)
    for hand in weaving:
        woven.step(hand)
    return woven


def answers(jobs, told):
    found = [answer_of(hand, job, things) for hand, (job, things) in enumerate(zip(jobs, told))]
    return [answer for answer in found if answer is not None]


def fits(jobs, told):
    """Whether the answers fit, told being what the deeds of each hand told."""
    word = jobs[0][0]
    found = answers(jobs, told)
    if word == "name":
        began = [things for things in told if things != ()]
        return sorted(set(found)) == sorted(found) and all(name in range(1, 2 * len(began)) for name in found)
    if word == "least":
        return set(found) <= {job[1] for job in jobs} and len(set(found)) <= len(jobs) - jobs[0][2] + 1
    if word == "closer":
        numbers = [job[1] for job in jobs]
        breadth = Fraction(max(numbers) - min(numbers))
        for _ in range(jobs[0][2]):
            breadth = breadth / 2
        points = [Fraction(top, bottom) for top, bottom in found]
        within = all(min(numbers) <= point <= max(numbers) for point in points)
        return within and all(abs(one - other) <= breadth for one in points for other in points)
    return True


def tells_wrong(woven, hand):
    """Whether the last step done, which was of this hand, tells wrong."""
    for own, deed, begin, end, told in woven.rows:
        if own == hand and end == woven.steps and deed == ("look",) and told not in woven.states[begin:end + 1]:
            return True
    return not fits(woven.jobs, woven.told)


def book(manner, jobs, most):
    """As the program tells it, each room being come to by its weaving anew."""
    first = Woven(manner, jobs)
    ways = {first.room(): ()}
    still = [()]
    for weaving in still:
        for hand in replayed(manner, jobs, weaving).hands():
            woven = replayed(manner, jobs, weaving + (hand,))
            if tells_wrong(woven, hand):
                return ("breaks", weaving + (hand,))
            if woven.room() not in ways:
                if len(ways) + 1 > most:
                    return ("open", None)
                ways[woven.room()] = weaving + (hand,)
                still.append(weaving + (hand,))
    return ("holds", tuple(ways))
