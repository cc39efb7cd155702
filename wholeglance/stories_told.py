"""Stories that anybody tells: what is one, and which of its rows are ahead of which."""

from wholeglance.kinds import is_tuple_of, is_whole, is_within, word_of
from wholeglance.values import is_state, is_value

MOST_ROWS = 14
MOST_HAND = 9


def is_story(places, thing):
    if not is_tuple_of(thing, 0, MOST_ROWS):
        return False
    if not all([is_row(places, row) for row in thing]):
        return False
    return all([follows(thing[:number], row) for number, row in enumerate(thing)])


def is_row(places, thing):
    if not is_tuple_of(thing, 5, 5) or not is_within(thing[0], 0, MOST_HAND):
        return False
    if not is_told_deed(places, thing[1]) or not are_times(thing[2], thing[3]):
        return False
    if thing[1][0] == "look" and thing[3] is not None:
        return is_state(places, thing[4])
    return thing[4] is None


def is_told_deed(places, thing):
    word = word_of(thing)
    if word == "put" and len(thing) == 3:
        return is_within(thing[1], 0, places - 1) and is_value(thing[2])
    return word == "look" and len(thing) == 1


def are_times(begin, end):
    if not is_whole(begin) or begin < 0:
        return False
    return end is None or (is_whole(end) and end > begin)


def follows(earlier, row):
    if not all([other[2] <= row[2] for other in earlier]):
        return False
    return all([is_ahead(other, row) for other in earlier if other[0] == row[0]])


def is_ahead(row, other):
    return row[3] is not None and row[3] <= other[2]
