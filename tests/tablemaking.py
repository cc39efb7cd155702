"""Tables drawn or made with a meaning, and whether a deed of theirs ends."""


def drawn_tables(chance, hands, boxes, forward=False, rows=8):
    """Rows in no order of sense; where they are to go forward, each deed ends whatever it reads."""
    puts = tuple(drawn_table(chance, boxes, lambda: ("end",), forward, rows) for _ in range(hands))

    def told():
        return ("told", tuple(chance.randrange(2) for _ in range(hands)))

    looks = tuple(drawn_table(chance, boxes, told, forward, rows) for _ in range(hands))
    return ("tables", hands, boxes, puts, looks)


def drawn_table(chance, boxes, end, forward, most):
    rows = chance.randint(2, most)
    made = [drawn_row(chance, boxes, place + 1 if forward else 0, rows) for place in range(rows - 1)]
    made.append(end() if forward else drawn_row(chance, boxes, 0, rows))
    for place in range(1, rows):
        if chance.random() < (0.15 if forward else 0.4):
            made[place] = end()
    return tuple(made)


def drawn_row(chance, boxes, least, rows):
    box, row = chance.randrange(boxes), chance.randrange(least, rows)
    if chance.random() < 0.4:
        return ("write", box, chance.randrange(4), row)
    told = sorted(chance.sample(range(5), chance.randint(0, 3)))
    return ("read", box, tuple((content, chance.randrange(least, rows)) for content in told), row)


def box_and_bit(hand, boxes):
    return hand % boxes, 1 << (hand // boxes)


def meant_tables(hands, boxes):
    """Each hand has a bit of a box, which a put sets by a read and a write, and a look reads each box once."""
    return ("tables", hands, boxes, tuple(bit_put(hand, boxes) for hand in range(hands)), (bits_look(hands, boxes),) * hands)


def bit_put(hand, boxes):
    box, bit = box_and_bit(hand, boxes)
    rows = [("read", box, tuple((content, 1 + content) for content in range(8)), 9)]
    rows += [("write", box, content | bit, 9) for content in range(8)]
    return tuple(rows) + (("end",),)


def bits_look(hands, boxes):
    rows = []

    def add(read):
        """The row that is behind these reads, with all rows behind it."""
        place = len(rows)
        if len(read) == boxes:
            bits = [box_and_bit(hand, boxes) for hand in range(hands)]
            rows.append(("told", tuple(int(read[boxes - 1 - box] & bit > 0) for box, bit in bits)))
            return place
        rows.append(None)
        # The last box has the fewest bits, so it is read first: there are at most forty rows.
        box = boxes - 1 - len(read)
        contents = 1 << len([hand for hand in range(hands) if hand % boxes == box])
        jumps = tuple((content, add(read + [content])) for content in range(contents))
        rows[place] = ("read", box, jumps, jumps[-1][1])
        return place

    add([])
    return tuple(rows)


def row_behind(row, content):
    if row[0] == "read":
        for told, target in row[2]:
            if told == content:
                return target
    return row[3]


def stepped(tables, state, hand):
    """Contents and rows behind a step of this hand, whose deed is by its table; row None ahead of it, -1 behind it."""
    contents, rows = state
    table = tables[hand]
    row = table[rows[hand] or 0]
    if row[0] == "write":
        contents = contents[:row[1]] + (row[2],) + contents[row[1] + 1:]
    target = row_behind(row, contents[row[1]])
    if table[target][0] in ("end", "told"):
        target = -1
    return contents, rows[:hand] + (target,) + rows[hand + 1:]


def ends_alone(tables, state, hand, most):
    for _ in range(most):
        if state[1][hand] == -1:
            return True
        state = stepped(tables, state, hand)
    return state[1][hand] == -1


def always_ends(manner, hand, word, most):
    """Whether this deed, alone from any room on to which puts of the others lead, ends within so many steps."""
    tables = tuple(manner[4][other] if other == hand and word == "look" else manner[3][other] for other in range(manner[1]))
    first = ((0,) * manner[2], (None,) * manner[1])
    seen = {first}
    still = [first]
    while still:
        state = still.pop()
        if not ends_alone(tables, state, hand, most):
            return False
        for other in range(manner[1]):
            if state[1][other] != -1:
                behind = stepped(tables, state, other)
                if behind not in seen:
                    seen.add(behind)
                    still.append(behind)
    return True
