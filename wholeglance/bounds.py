"""How many steps of its own hand a deed may take, whatever the others do."""

from wholeglance.manners import hands_of, number_of, places_of


def most_steps(manner, word):
    look = most_of_look(manner)
    if word == "look":
        return look
    if manner[0] in ("once", "twice"):
        return 1
    return look + steps_around(manner)


def most_of_look(manner):
    hands = hands_of(manner)
    name = manner[0]
    if name == "once":
        return hands
    if name == "twice":
        return 2 if hands == 1 else None
    rounds = most_rounds(manner)
    if name == "handed":
        return hands * (rounds + 1)
    if name == "signs":
        return rounds * (2 * hands + 2 * shaken_hands(manner))
    steps = rounds * (2 * places_of(manner) + 3 * shaken_hands(manner))
    return steps + 1 if hands > 1 else steps


def most_rounds(manner):
    # Each other one may be seen to move in all but one of the rounds that it takes.
    return (hands_of(manner) - 1) * (number_of(manner, "moves") - 1) + 1


def shaken_hands(manner):
    return number_of(manner, "shakes") * (hands_of(manner) - 1)


def steps_around(manner):
    # What a put does ahead of its own look and behind it.
    name = manner[0]
    if name == "handed":
        return 1
    if name == "signs":
        return shaken_hands(manner) + 1
    return 2 * shaken_hands(manner) + 2
