"""Deeds: to put a value at a place, or to look how all places stand."""

from wholeglance.kinds import is_whole, is_within, word_of
from wholeglance.manners import places_of
from wholeglance.values import is_value


def is_deed(manner, hand, thing):
    word = word_of(thing)
    if word == "look":
        return len(thing) == 1
    if word != "put" or len(thing) != 3:
        return False
    return may_put_at(manner, hand, thing[1]) and may_put(manner, thing[2])


def may_put_at(manner, hand, place):
    if not is_within(place, 0, places_of(manner) - 1):
        return False
    return manner[0] == "shared" or place == hand


def may_put(manner, value):
    if manner[0] == "tables":
        return is_whole(value) and value == 1
    return is_value(value)
