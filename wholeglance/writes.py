"""The steps by which a put ends."""

from wholeglance.manners import number_of


def write_step(writes, reads):
    if len(reads) < len(writes):
        return writes[len(reads)]
    return ("told", None)


def toggle_of(manner, deed, ahead):
    if number_of(manner, "toggles") == 0:
        return 0
    return (ahead[deed[1]] + 1) % 2
