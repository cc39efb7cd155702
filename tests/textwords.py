"""The texts of cases, by the document's words."""

import re

from wholeglance.jobs import is_jobs
from wholeglance.manners import is_manner

NUMBER = r"(?:0|-?[1-9][0-9]{0,11})"
COUNTS = {"once": 1, "twice": 2, "handed": 3, "signs": 4, "shared": 5}
JOB_COUNTS = {"name": 1, "least": 2, "closer": 2}
INNERMOST = re.compile(rf"\((?:{NUMBER}(?: {NUMBER})*)?\)")


def is_number(text):
    return re.fullmatch(NUMBER, text) is not None


def is_value(text):
    """Tuples of numbers are made numbers till there are none left; a bracket must not touch what is beside it."""
    while True:
        shorter = INNERMOST.sub("#", text)
        if re.search(r"[^( ]#|#[^) ]", shorter):
            return False
        shorter = shorter.replace("#", "0")
        if shorter == text:
            return is_number(text)
        text = shorter


def is_deed(text):
    found = re.fullmatch(rf"put {NUMBER} (.*)", text)
    return text == "look" or (found is not None and is_value(found.group(1)))


def has_form(row):
    """The word of a row that has one of the forms, else None."""
    if re.fullmatch(rf"weave(?: {NUMBER})*", row):
        return "weave"
    for word, count in COUNTS.items():
        if re.fullmatch(rf"manner {word}(?: {NUMBER}){{{count}}}", row):
            return "manner"
    for word, count in JOB_COUNTS.items():
        if re.fullmatch(rf"hand {word}(?: {NUMBER}){{{count}}}", row):
            return "hand"
    if re.fullmatch(rf"hand sums(?: (?:\?|{NUMBER}))*", row) or row == "hand deeds":
        return "hand"
    if row.startswith("hand deeds ") and all(is_deed(deed) for deed in row[len("hand deeds "):].split(", ")):
        return "hand"
    return None


def value_of(text):
    if text[0] != "(":
        return int(text)
    return eval(re.sub(r"([0-9)])(?=[ )])", r"\1,", text))


def deed_of(text):
    if text == "look":
        return ("look",)
    _, place, value = text.split(" ", 2)
    return ("put", int(place), value_of(value))


def job_of(row):
    _, word, *rest = row.split(" ")
    if word == "deeds":
        return ("deeds", tuple(deed_of(deed) for deed in " ".join(rest).split(", ")) if rest else ())
    if word == "sums":
        return ("sums", tuple(None if item == "?" else int(item) for item in rest))
    return (word,) + tuple(int(number) for number in rest)


def read(text):
    """The case, or the number of a row with which it is refused."""
    rows = text.split("\n")
    due = ("manner",)
    for number, row in enumerate(rows):
        word = has_form(row)
        if word not in due:
            return number
        due = () if word == "weave" else ("hand", "weave")
    if due:
        return len(rows)
    first = rows[0].split(" ")
    manner = (first[1],) + tuple(int(number) for number in first[2:])
    jobs = tuple(job_of(row) for row in rows[1:-1])
    weaving = tuple(int(hand) for hand in rows[-1].split(" ")[1:])
    if not is_manner(manner) or not is_jobs(manner, jobs) or any(hand not in range(manner[1]) for hand in weaving):
        return len(rows)
    return (manner, jobs, weaving)
