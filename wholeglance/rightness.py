"""Which manners never tell wrong."""

from wholeglance.manners import hands_of, number_of, places_of


def is_right(manner):
    if hands_of(manner) == 1:
        return True
    word = manner[0]
    if word == "once":
        return hands_of(manner) == 2
    if word == "twice":
        return is_numbered_apart(manner)
    if word == "handed":
        return number_of(manner, "moves") >= 2 and is_numbered_apart(manner)
    if word == "signs":
        return is_right_signs(manner)
    return is_right_shared(manner)


def is_numbered_apart(manner):
    return number_of(manner, "turn") == 0 or hands_of(manner) == 2


def is_right_signs(manner):
    signs = number_of(manner, "toggles") + number_of(manner, "shakes")
    if hands_of(manner) == 2 and signs == 0:
        return True
    return number_of(manner, "moves") >= 2 and (hands_of(manner) == 2 or signs == 2)


def is_right_shared(manner):
    moves = number_of(manner, "moves")
    shakes = number_of(manner, "shakes")
    if places_of(manner) == 1:
        return moves >= 2 + shakes
    if moves < 3 or shakes == 0:
        return False
    return number_of(manner, "toggles") == 1 or hands_of(manner) == 2
