"""Which tables tell a manner's steps row by row."""

from wholeglance.kinds import is_tuple_of, is_within, word_of

MOST_ROWS = 40
MOST_CONTENT = 9


def are_tables(hands, boxes, ending, thing):
    if not is_tuple_of(thing, hands, hands):
        return False
    return all([is_table(hands, boxes, ending, table) for table in thing])


def is_table(hands, boxes, ending, thing):
    if not is_tuple_of(thing, 1, MOST_ROWS):
        return False
    rows = len(thing)
    # A deed has at least one step, so its first row is no end.
    if not is_step_row(boxes, rows, thing[0]):
        return False
    return all([is_step_row(boxes, rows, row) or is_end_row(hands, ending, row) for row in thing])


def is_step_row(boxes, rows, thing):
    word = word_of(thing)
    if word not in ("read", "write") or len(thing) != 4:
        return False
    if not is_within(thing[1], 0, boxes - 1) or not is_within(thing[3], 0, rows - 1):
        return False
    if word == "read":
        return are_jumps(rows, thing[2])
    return is_within(thing[2], 0, MOST_CONTENT)


def are_jumps(rows, thing):
    if not isinstance(thing, tuple):
        return False
    least = 0
    for jump in thing:
        if not is_tuple_of(jump, 2, 2) or not is_within(jump[0], least, MOST_CONTENT):
            return False
        if not is_within(jump[1], 0, rows - 1):
            return False
        least = jump[0] + 1
    return True


def is_end_row(hands, ending, thing):
    if word_of(thing) != ending:
        return False
    if ending == "end":
        return len(thing) == 1
    return len(thing) == 2 and is_told_state(hands, thing[1])


def is_told_state(hands, thing):
    if not is_tuple_of(thing, hands, hands):
        return False
    return all([is_within(number, 0, 1) for number in thing])
