"""Values, which are put at places, and states, a value for each place."""

from wholeglance.kinds import is_figured, is_tuple_of

TWELVE_FIGURES = 999999999999
MOST_PARTS = 8
MOST_DEEP = 3


def is_value(thing):
    return is_value_within(thing, MOST_DEEP)


def is_value_within(thing, deep):
    # A depth that runs out ends the walk, so nothing is walked deeper than a value may be.
    if deep == 0 or not isinstance(thing, tuple):
        return is_figured(thing, TWELVE_FIGURES)
    if not is_tuple_of(thing, 0, MOST_PARTS):
        return False
    return all([is_value_within(part, deep - 1) for part in thing])


def is_state(places, thing):
    if not is_tuple_of(thing, places, places):
        return False
    return all([is_value(part) for part in thing])
