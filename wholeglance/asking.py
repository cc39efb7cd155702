"""The steps by which a deed is done, each reading one box or writing one."""

from wholeglance.collects import collect_boxes
from wholeglance.numbered import handed_put, numbered_look, twice_put
from wholeglance.shared import shared_look, shared_put
from wholeglance.signs import signs_look, signs_put
from wholeglance.tablesteps import table_step
from wholeglance.writes import write_step


def next_step(manner, hand, deed, ahead, reads):
    if manner[0] == "tables":
        return table_step(manner, hand, deed, reads)
    if deed[0] == "look":
        return look_step(manner, hand, reads)
    return put_step(manner, hand, deed, ahead, reads)


def look_step(manner, hand, reads):
    word = manner[0]
    if word == "once":
        return once_look(manner, reads)
    if word == "signs":
        return signs_look(manner, hand, reads)[0]
    if word == "shared":
        return shared_look(manner, hand, reads)[0]
    return numbered_look(manner, reads)[0]


def put_step(manner, hand, deed, ahead, reads):
    word = manner[0]
    if word == "once":
        return write_step([("write", ("own", hand), deed[2])], reads)
    if word == "twice":
        return twice_put(manner, hand, deed, ahead, reads)
    if word == "handed":
        return handed_put(manner, hand, deed, ahead, reads)
    if word == "signs":
        return signs_put(manner, hand, deed, ahead, reads)
    return shared_put(manner, hand, deed, ahead, reads)


def once_look(manner, reads):
    boxes = collect_boxes(manner)
    if len(reads) < len(boxes):
        return ("read", boxes[len(reads)])
    return ("told", reads)
