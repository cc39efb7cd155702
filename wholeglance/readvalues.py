"""Numbers and values, read from texts."""

FIGURES = "0123456789"
MOST_FIGURES = 12


def read_number(text):
    # None of what is no number.
    figures = text[1:] if text.startswith("-") else text
    # The length is asked first: a text may be far longer than any number.
    if len(figures) == 0 or len(figures) > MOST_FIGURES:
        return None
    if not all([figure in FIGURES for figure in figures]):
        return None
    if figures[0] == "0" and text != "0":
        return None
    return int(text)


def read_numbers(words):
    numbers = [read_number(word) for word in words]
    return None if None in numbers else tuple(numbers)


def read_value(words):
    # None of what is no value. Brackets may be however deep, so the tuples under way stand in a list of their own.
    levels = [[]]
    for word in words:
        if not read_part(levels, word):
            return None
    if len(levels) > 1 or len(levels[0]) != 1:
        return None
    return levels[0][0]


def read_part(levels, word):
    # A word between two blanks is a number, or nothing, with brackets that begin ahead of it and that end behind it.
    rest = word.lstrip("(")
    middle = rest.rstrip(")")
    begins = len(word) - len(rest)
    ends = len(rest) - len(middle)
    levels.extend([[] for bracket in range(begins)])
    number = read_number(middle)
    if number is not None:
        levels[-1].append(number)
    elif middle != "" or begins == 0 or ends == 0:
        return False
    return close_brackets(levels, ends)


def close_brackets(levels, ends):
    if ends >= len(levels):
        return False
    for bracket in range(ends):
        part = tuple(levels.pop())
        levels[-1].append(part)
    return True
