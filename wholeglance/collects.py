"""The boxes that a collect reads, in the order in which it reads them."""

from wholeglance.manners import places_of


def collect_boxes(manner):
    # Outside of shared each hand has a place, so places count the hands there.
    word = "box" if manner[0] == "shared" else "own"
    return tuple([(word, number) for number in range(places_of(manner))])
