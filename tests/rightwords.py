"""Which manners are right, by the document's words."""


def right(manner):
    word, hands = manner[0], manner[1]
    two = hands == 2
    if hands == 1:
        return True
    if word == "once":
        return two
    if word == "twice":
        return manner[2] == 0 or two
    if word == "handed":
        return manner[3] >= 2 and (manner[2] == 0 or two)
    if word == "signs":
        _, _, toggles, shakes, moves = manner
        if two:
            return moves >= 2 or (toggles == 0 and shakes == 0)
        return toggles == 1 and shakes == 1 and moves >= 2
    _, _, places, toggles, shakes, moves = manner
    if places == 1:
        return moves >= (3 if shakes else 2)
    return moves >= 3 and shakes == 1 and (toggles == 1 or two)
