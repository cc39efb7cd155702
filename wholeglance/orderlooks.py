"""Whether a thing is an order that a story fits, or rooms which show that there is none."""

from wholeglance.boxes import zeros
from wholeglance.kinds import is_same, is_tuple_of, is_within
from wholeglance.orderrooms import bits_of, ended_bits, fits, leads, plan_of, state_behind
from wholeglance.stories_told import is_ahead
from wholeglance.values import is_value


def shows_order(places, story, thing):
    if not is_tuple_of(thing, 0, len(story)) or not are_rows(story, thing):
        return False
    if len(set(thing)) < len(thing) or not has_ended(story, thing):
        return False
    return keeps_turns(story, thing) and fits_all(places, [story[number] for number in thing])


def are_rows(story, thing):
    return all([is_within(number, 0, len(story) - 1) for number in thing])


def has_ended(story, order):
    return all([number in order for number, row in enumerate(story) if row[3] is not None])


def keeps_turns(story, order):
    for place, number in enumerate(order):
        if any([is_ahead(story[number], story[earlier]) for earlier in order[:place]]):
            return False
    return True


def fits_all(places, rows):
    state = zeros(places)
    for row in rows:
        if not fits(row, state):
            return False
        state = state_behind(row, state)
    return True


def shows_none(places, story, thing):
    values = [row[1][2] for row in story if row[1][0] == "put"]
    if not isinstance(thing, tuple) or not all([is_room(places, story, values, pair) for pair in thing]):
        return False
    known = {}
    for pair in thing:
        known[(bits_of(pair[0]), pair[1])] = True
    return (0, zeros(places)) in known and lead_nowhere_else(story, known)


def lead_nowhere_else(story, known):
    plan = plan_of(story)
    ended = ended_bits(story)
    for done, state in known:
        if done & ended == ended:
            return False
        if not all([behind in known for number, behind in leads(plan, done, state)]):
            return False
    return True


def is_room(places, story, values, thing):
    if not is_tuple_of(thing, 2, 2):
        return False
    return is_rising(story, thing[0]) and is_state_of(places, values, thing[1])


def is_rising(story, thing):
    if not is_tuple_of(thing, 0, len(story)) or not are_rows(story, thing):
        return False
    return all([thing[place - 1] < thing[place] for place in range(1, len(thing))])


def is_state_of(places, values, thing):
    if not is_tuple_of(thing, places, places):
        return False
    # What the story itself puts may stand, however large it is.
    return all([is_value(part) or any([is_same(part, value) for value in values]) for part in thing])
