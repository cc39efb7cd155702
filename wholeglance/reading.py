"""Cases, read from their texts."""

from wholeglance.errors import NoText
from wholeglance.jobs import is_jobs
from wholeglance.kinds import is_within
from wholeglance.manners import count_of_numbers, hands_of, is_manner
from wholeglance.readvalues import read_number, read_numbers, read_value

JOB_NUMBERS = {"name": 1, "least": 2, "closer": 2}


def read_case(text):
    if not isinstance(text, str):
        raise NoText(0)
    rows = text.split("\n")
    parts = []
    for number, row in enumerate(rows):
        part = read_row(row)
        if part is None or not stands_behind(parts, part[0]):
            raise NoText(number)
        parts.append(part)
    if parts[-1][0] != "weave" or not is_case(parts):
        raise NoText(len(rows))
    return (parts[0][1], jobs_of(parts), parts[-1][1])


def stands_behind(parts, word):
    if len(parts) == 0:
        return word == "manner"
    return word in ("hand", "weave") and parts[-1][0] != "weave"


def is_case(parts):
    manner = parts[0][1]
    if not is_manner(manner) or not is_jobs(manner, jobs_of(parts)):
        return False
    return all([is_within(hand, 0, hands_of(manner) - 1) for hand in parts[-1][1]])


def jobs_of(parts):
    return tuple([job for word, job in parts[1:-1]])


def read_row(row):
    # Its word and what it tells, None of what has no such form.
    words = row.split(" ")
    if words[0] == "weave":
        return with_word("weave", read_numbers(words[1:]))
    if len(words) == 1:
        return None
    if words[0] == "manner":
        return with_word("manner", read_manner(words[1], words[2:]))
    if words[0] == "hand":
        return with_word("hand", read_job(words[1], words[2:]))
    return None


def with_word(word, thing):
    return None if thing is None else (word, thing)


def read_manner(word, words):
    numbers = read_numbers(words)
    # Tables have no text.
    if numbers is None or word == "tables" or len(numbers) != count_of_numbers(word):
        return None
    return (word,) + numbers


def read_job(word, words):
    if word == "deeds":
        return with_word("deeds", read_deeds(words))
    if word == "sums":
        return with_word("sums", read_items(words))
    numbers = read_numbers(words)
    if numbers is None or len(numbers) != JOB_NUMBERS.get(word):
        return None
    return (word,) + numbers


def read_items(words):
    if not all([word == "?" or read_number(word) is not None for word in words]):
        return None
    return tuple([None if word == "?" else read_number(word) for word in words])


def read_deeds(words):
    if len(words) == 0:
        return ()
    deeds = [read_deed(deed.split(" ")) for deed in " ".join(words).split(", ")]
    return None if None in deeds else tuple(deeds)


def read_deed(words):
    if words == ["look"]:
        return ("look",)
    if words[0] != "put" or len(words) < 3:
        return None
    place = read_number(words[1])
    value = read_value(words[2:])
    return None if place is None or value is None else ("put", place, value)
