"""Manners of each word, and the tables that they hold."""

from itertools import product

HANDS = (1, 2, 3, 4, 5)
TURNS = (0, 2, 3, 4, 5, 6, 7, 8, 9)
MOVES = (1, 2, 3, 4)
PLACES = (1, 2, 3, 4)
BOXES = (1, 2, 3, 4)
BITS = (0, 1)

PLAIN = {
    "once": (HANDS,),
    "twice": (HANDS, TURNS),
    "handed": (HANDS, TURNS, MOVES),
    "signs": (HANDS, BITS, BITS, MOVES),
    "shared": (HANDS, PLACES, BITS, BITS, MOVES),
}

PUT_ROWS = (("write", 0, 1, 1), ("end",))


def look_rows(hands):
    return (("read", 0, ((1, 1),), 2), ("told", (1,) * hands), ("told", (0,) * hands))


def tables(hands, boxes):
    return ("tables", hands, boxes, (PUT_ROWS,) * hands, (look_rows(hands),) * hands)


def plain_manners(word):
    return [(word,) + numbers for numbers in product(*PLAIN[word])]


def all_plain_manners():
    return [manner for word in PLAIN for manner in plain_manners(word)]


def some_manners(hands):
    """One or two of each word, tables last."""
    return [
        ("once", hands), ("twice", hands, 0), ("handed", hands, 3, 2), ("signs", hands, 1, 1, 2),
        ("signs", hands, 0, 0, 1), ("shared", hands, 1, 0, 0, 1), ("shared", hands, 4, 1, 1, 3), tables(hands, 2),
    ]
