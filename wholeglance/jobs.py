"""Jobs: which deeds each hand does, by what its deeds told so far."""

from wholeglance.closers import closer_course
from wholeglance.deeds import is_deed
from wholeglance.kinds import is_figured, is_tuple_of, is_within, word_of
from wholeglance.leasts import least_course
from wholeglance.manners import hands_of
from wholeglance.names import name_course
from wholeglance.sums import sums_course

NINE_FIGURES = 999999999
MOST_DEEDS = 12
MOST_ITEMS = 8
MOST_ROUNDS = 6

LENGTHS = {"deeds": 2, "sums": 2, "name": 2, "least": 3, "closer": 3}


def is_jobs(manner, thing):
    hands = hands_of(manner)
    if not is_tuple_of(thing, hands, hands):
        return False
    if not all([is_job(manner, hand, job) for hand, job in enumerate(thing)]):
        return False
    return go_together(thing)


def is_job(manner, hand, thing):
    word = word_of(thing)
    if word not in LENGTHS or len(thing) != LENGTHS[word]:
        return False
    if word == "deeds":
        return is_row_of_deeds(manner, hand, thing[1])
    if manner[0] in ("shared", "tables"):
        return False
    if word == "sums":
        return are_items(thing[1])
    if not is_figured(thing[1], NINE_FIGURES):
        return False
    if word == "least":
        return is_within(thing[2], 1, hands_of(manner))
    return word == "name" or is_within(thing[2], 1, MOST_ROUNDS)


def is_row_of_deeds(manner, hand, thing):
    if not is_tuple_of(thing, 0, MOST_DEEDS):
        return False
    return all([is_deed(manner, hand, deed) for deed in thing])


def are_items(thing):
    if not is_tuple_of(thing, 0, MOST_ITEMS):
        return False
    return all([item is None or is_figured(item, NINE_FIGURES) for item in thing])


def go_together(jobs):
    for place, job in enumerate(jobs):
        if not all([are_fellows(job, other) for other in jobs[:place]]):
            return False
    return True


def are_fellows(job, other):
    if job[0] != other[0]:
        return False
    if job[0] == "name":
        return job[1] != other[1]
    # What stands third, waits and rounds, is the same for all.
    return job[2:] == other[2:]


def next_deed(hand, job, told):
    return course(hand, job, told)[0]


def answer_of(hand, job, told):
    return course(hand, job, told)[1]


def course(hand, job, told):
    # Just one of the deed to come and the answer isn't None.
    word = job[0]
    if word == "sums":
        return sums_course(hand, job[1], told)
    if word == "name":
        return name_course(hand, job[1], told)
    if word == "least":
        return least_course(hand, job[1], job[2], told)
    if word == "closer":
        return closer_course(hand, job[1], job[2], told)
    return deeds_course(job[1], told)


def deeds_course(row, told):
    if len(told) < len(row):
        return (row[len(told)], None)
    return (None, ())
