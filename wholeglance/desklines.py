"""What a desk answers to the lines that change nothing."""

from wholeglance.answers import answers_of
from wholeglance.books import book
from wholeglance.bounds import most_steps
from wholeglance.errors import NoLine
from wholeglance.kinds import is_within
from wholeglance.manners import places_of
from wholeglance.moments import moments
from wholeglance.orders import ordered
from wholeglance.readvalues import read_number
from wholeglance.rightness import is_right
from wholeglance.rooms import may_step, state_of
from wholeglance.showing import show_case, show_value
from wholeglance.stories import story
from wholeglance.stories_told import MOST_ROWS

MOST_ROOMS = 4000


def answer_to(words, manner, jobs, weaving, room):
    if words[0] == "box":
        return box_line(room, words[1:])
    if words[0] == "book" and len(words) == 2:
        return book_line(manner, jobs, read_number(words[1]))
    if len(words) > 1:
        raise NoLine()
    if words[0] in ("right", "most"):
        return manner_line(words[0], manner)
    if words[0] in ("hands", "state", "told", "answers"):
        return room_line(words[0], manner, jobs, room)
    if words[0] in ("moments", "order", "case"):
        return weaving_line(words[0], manner, jobs, weaving)
    raise NoLine()


def manner_line(word, manner):
    if word == "right":
        return yes_or_no(is_right(manner))
    return " ".join([show_thing(most_steps(manner, deed)) for deed in ("put", "look")])


def room_line(word, manner, jobs, room):
    if word == "hands":
        return show_things(may_step(manner, jobs, room), "-")
    if word == "state":
        return show_value(state_of(manner, room))
    if word == "answers":
        return "; ".join([show_thing(answer) for answer in answers_of(jobs, room)])
    return "; ".join([show_things(row[0], ".") for row in room[1]])


def weaving_line(word, manner, jobs, weaving):
    if word == "moments":
        return show_things(moments(manner, jobs, weaving), ".")
    if word == "case":
        return show_case(manner, jobs, weaving)
    rows = story(manner, jobs, weaving)
    if len(rows) > MOST_ROWS:
        raise NoLine()
    return yes_or_no(ordered(places_of(manner), rows)[0] == "order")


def show_things(things, nothing):
    return " ".join([show_thing(thing) for thing in things]) if len(things) > 0 else nothing


def show_thing(thing):
    return "-" if thing is None else show_value(thing)


def yes_or_no(truth):
    return "yes" if truth else "no"


def box_line(room, words):
    contents = dict(room[0])
    box = tuple(words[:1] + [read_number(word) for word in words[1:]])
    if box not in contents:
        raise NoLine()
    return show_value(contents[box])


def book_line(manner, jobs, most):
    if not is_within(most, 0, MOST_ROOMS):
        raise NoLine()
    found = book(manner, jobs, most)
    if found[0] == "holds":
        rooms = len(found[1])
        return f"holds {rooms}"
    if found[0] == "breaks":
        return " ".join(["breaks", show_things(found[1], "-")])
    return "open"
