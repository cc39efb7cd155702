"""The rounds of a look, and which of them ends it."""


def last_round(stride, span, moves, reads, moved_in):
    # A pair: where the reads of the round that ends the look begin, and whose view is told, None where nobody moved.
    seen = {}
    start = 0
    while start + span <= len(reads):
        moved = moved_in(reads[start:start + span])
        if len(moved) == 0:
            return (start, None)
        for hand in moved:
            seen[hand] = seen.get(hand, 0) + 1
        often = [hand for hand in moved if seen[hand] == moves]
        if len(often) > 0:
            return (start, min(often))
        start += stride
    return None
