"""Plans by which hand 0 is led to tell wrong: a dict of the deeds of each hand that has any, and a script."""

from wholeglance.manners import number_of, places_of
from wholeglance.shakes import shaken_by

LOOK = ("look",)


def has_stale_views(manner):
    # Whether a hand is seen often enough while its view is still one of ahead of the look's begin.
    word = manner[0]
    if word in ("once", "twice"):
        return False
    moves = number_of(manner, "moves")
    if word == "handed":
        return moves == 1
    if word == "signs":
        return moves == 1 and number_of(manner, "toggles") + number_of(manner, "shakes") > 0
    # A call may show a put ahead of its view, so that one view is seen twice.
    return moves <= 1 + number_of(manner, "shakes")


def stale_plan(manner):
    place = 0 if manner[0] == "shared" else 1
    rows = {0: (("put", 0, 5), LOOK), 1: (("put", place, 7), ("put", place, 8))}
    opening = opening_steps(manner)
    collect = places_of(manner)
    script = [(1, "brink"), (0, "whole"), (0, opening + collect), (1, 1)]
    if number_of(manner, "moves") == 2:
        # Behind the round's end and the next one's opening the other's next put is seen by its call alone.
        script.extend([(0, collect + opening // 2 + opening), (1, 2)])
    return (rows, script + [(0, "whole")])


def torn_plan(manner):
    # Between the last reads of two places both change, the second one behind the first and without being seen.
    if manner[0] != "shared":
        return torn_owns(manner)
    if number_of(manner, "shakes") == 0:
        return torn_by_one(manner)
    rows = {0: (LOOK,), 1: (("put", 1, 1), ("put", 1, 2)), 2: (("put", 0, 1),)}
    ahead = [(1, "whole"), (1, "brink"), (2, "brink")]
    return (rows, ahead + [(0, steps_to_place(manner, 1)), (2, 1), (1, 1), (0, "whole")])


def torn_by_one(manner):
    # Once it is the writer, a toggle alone shows its puts, and that comes back with each second one.
    rows = {0: (LOOK,), 1: (("put", 1, 1), ("put", 0, 1)) + unseen_puts(1, 1 + number_of(manner, "toggles"))}
    puts = [(1, "whole")] * (len(rows[1]) - 1)
    return (rows, [(1, "whole"), (0, steps_to_place(manner, 1))] + puts + [(0, "whole")])


def torn_owns(manner):
    look = (0, steps_to_place(manner, 2))
    if manner[0] == "signs" and number_of(manner, "shakes") == 1:
        # A put that began ahead of the look calls as the one ahead of it did.
        rows = {0: (LOOK,), 1: (("put", 1, 1),), 2: unseen_puts(2, 2)}
        return (rows, [(2, "whole"), (2, "brink"), look, (1, "whole"), (2, 1), (0, "whole")])
    rows = {0: (LOOK,), 1: (("put", 1, 1),), 2: unseen_puts(2, puts_till_alike(manner))}
    return (rows, [look, (1, "whole")] + [(2, "whole")] * len(rows[2]) + [(0, "whole")])


def unseen_puts(place, count):
    return tuple([("put", place, 2 + number) for number in range(count)])


def puts_till_alike(manner):
    # Behind how many puts a box bears the same sign again.
    word = manner[0]
    if word in ("twice", "handed"):
        return number_of(manner, "turn")
    return 1 + number_of(manner, "toggles") if word == "signs" else 1


def opening_steps(manner):
    if manner[0] not in ("signs", "shared"):
        return 0
    return 2 * len(shaken_by(manner, 0))


def steps_to_place(manner, place):
    # Where a look is about to read this place for the last time, nobody being seen to move.
    first_collect = 0 if manner[0] == "once" else places_of(manner)
    return opening_steps(manner) + first_collect + place
