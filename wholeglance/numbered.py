"""The steps of twice and handed, whose contents bear the numbers of puts."""

from wholeglance.manners import hands_of, number_of
from wholeglance.rounds import last_round
from wholeglance.writes import write_step


def numbered_look(manner, reads):
    # Told are the next step and how many of the reads are the look's own: behind a put's own look there are others.
    hands = hands_of(manner)
    ending = last_round(hands, 2 * hands, moves_of(manner), reads, renumbered)
    if ending is None:
        return (("read", ("own", len(reads) % hands)), len(reads))
    used = ending[0] + 2 * hands
    last = reads[used - hands:used]
    if ending[1] is None:
        return (("told", tuple([content[0] for content in last])), used)
    return (("told", last[ending[1]][2]), used)


def moves_of(manner):
    # In twice nobody is ever seen often enough.
    return number_of(manner, "moves") if manner[0] == "handed" else None


def renumbered(reads):
    hands = len(reads) // 2
    return [hand for hand in range(hands) if reads[hand][1] != reads[hands + hand][1]]


def twice_put(manner, hand, deed, ahead, reads):
    return write_step([("write", ("own", hand), (deed[2], put_number(manner, deed, ahead)))], reads)


def handed_put(manner, hand, deed, ahead, reads):
    look = numbered_look(manner, reads)
    if look[0][0] != "told":
        return look[0]
    content = (deed[2], put_number(manner, deed, ahead), look[0][1])
    return write_step([("write", ("own", hand), content)], reads[look[1]:])


def put_number(manner, deed, ahead):
    turn = number_of(manner, "turn")
    number = ahead[deed[1]] + 1
    return number if turn == 0 else number % turn
