"""Manners: by which steps deeds are done, with their numbers."""

from wholeglance.kinds import is_whole, word_of
from wholeglance.tables import are_tables

NUMBERS = {
    "once": ("hands",),
    "twice": ("hands", "turn"),
    "handed": ("hands", "turn", "moves"),
    "signs": ("hands", "toggles", "shakes", "moves"),
    "shared": ("hands", "places", "toggles", "shakes", "moves"),
    "tables": ("hands", "boxes"),
}

ALLOWED = {
    "hands": (1, 2, 3, 4, 5),
    "turn": (0, 2, 3, 4, 5, 6, 7, 8, 9),
    "moves": (1, 2, 3, 4),
    "toggles": (0, 1),
    "shakes": (0, 1),
    "places": (1, 2, 3, 4),
    "boxes": (1, 2, 3, 4),
}


def is_manner(thing):
    word = word_of(thing)
    if word not in NUMBERS:
        return False
    if word == "tables":
        return is_tables_manner(thing)
    return are_numbers_of(word, thing[1:])


def are_numbers_of(word, numbers):
    if len(numbers) != len(NUMBERS[word]):
        return False
    return all([is_allowed(name, number) for name, number in zip(NUMBERS[word], numbers)])


def count_of_numbers(word):
    # None of what is no manner's word.
    return len(NUMBERS[word]) if word in NUMBERS else None


def is_allowed(name, thing):
    return is_whole(thing) and thing in ALLOWED[name]


def is_tables_manner(thing):
    if len(thing) != 5 or not are_numbers_of("tables", thing[1:3]):
        return False
    hands = thing[1]
    boxes = thing[2]
    return are_tables(hands, boxes, "end", thing[3]) and are_tables(hands, boxes, "told", thing[4])


def number_of(manner, name):
    return manner[1 + NUMBERS[manner[0]].index(name)]


def hands_of(manner):
    return number_of(manner, "hands")


def places_of(manner):
    if manner[0] == "shared":
        return number_of(manner, "places")
    return hands_of(manner)
