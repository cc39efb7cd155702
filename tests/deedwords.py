"""Deeds as the document words them, each a walk that is sent what its reads read and gives its steps one by one."""

from collections import Counter


def collected(boxes):
    contents = []
    for box in boxes:
        contents.append((yield ("read", box)))
    return contents


def owns(hands):
    return [("own", j) for j in range(hands)]


def others(hands, i):
    return [j for j in range(hands) if j != i]


def values(contents):
    return tuple(content[0] for content in contents)


def once_look(manner, i):
    contents = yield from collected(owns(manner[1]))
    return tuple(contents)


def once_put(manner, i, value, count):
    yield ("write", ("own", i), value)


def number_by_turn(count, turn):
    return count + 1 if turn == 0 else (count + 1) % turn


def twice_look(manner, i):
    ahead = yield from collected(owns(manner[1]))
    while True:
        last = yield from collected(owns(manner[1]))
        if [content[1] for content in last] == [content[1] for content in ahead]:
            return values(last)
        ahead = last


def twice_put(manner, i, value, count):
    yield ("write", ("own", i), (value, number_by_turn(count, manner[2])))


def handed_look(manner, i):
    _, hands, _, moves = manner
    seen = Counter()
    ahead = yield from collected(owns(hands))
    while True:
        last = yield from collected(owns(hands))
        moved = [j for j in range(hands) if last[j][1] != ahead[j][1]]
        if not moved:
            return values(last)
        seen.update(moved)
        often = [j for j in range(hands) if seen[j] >= moves]
        if often:
            return last[often[0]][2]
        ahead = last


def handed_put(manner, i, value, count):
    view = yield from handed_look(manner, i)
    yield ("write", ("own", i), (value, number_by_turn(count, manner[2]), view))


def toggle_behind(count, toggles):
    # 1 behind the first put, then 0 and 1 by turns.
    return [1, 0][count % 2] if toggles else 0


def signs_look(manner, i):
    _, hands, toggles, shakes, moves = manner
    rounds = Counter()
    while True:
        sign = {}
        if shakes:
            for j in others(hands, i):
                content = yield ("read", ("own", j))
                sign[j] = content[1][i]
                yield ("write", ("sign", i, j), sign[j])
        first = yield from collected(owns(hands))
        second = yield from collected(owns(hands))
        moved = []
        for j in others(hands, i):
            toggled = toggles == 1 and first[j][2] != second[j][2]
            called = shakes == 1 and not first[j][1][i] == sign[j] == second[j][1][i]
            if toggled or called:
                moved.append(j)
        if not moved:
            return values(second)
        rounds.update(moved)
        often = [j for j in range(hands) if rounds[j] >= moves]
        if often:
            return second[often[0]][3]


def signs_put(manner, i, value, count):
    _, hands, toggles, shakes, _ = manner
    calls = [0] * hands
    if shakes:
        for j in others(hands, i):
            calls[j] = 1 - (yield ("read", ("sign", j, i)))
    view = yield from signs_look(manner, i)
    yield ("write", ("own", i), (value, tuple(calls), toggle_behind(count, toggles), view))


def shared_look(manner, i):
    _, hands, places, toggles, shakes, moves = manner
    boxes = [("box", k) for k in range(places)]
    rounds = Counter()
    while True:
        sign = {}
        if shakes:
            for j in others(hands, i):
                sign[j] = yield ("read", ("call", j, i))
                yield ("write", ("sign", i, j), sign[j])
        first = yield from collected(boxes)
        second = yield from collected(boxes)
        moved = set()
        if shakes:
            for j in others(hands, i):
                call = yield ("read", ("call", j, i))
                if call != sign[j]:
                    moved.add(j)
        for j in others(hands, i):
            for (_, writer, toggle), (_, last_writer, last_toggle) in zip(first, second):
                if last_writer == j and (writer != j or (toggles == 1 and toggle != last_toggle)):
                    moved.add(j)
        if not moved:
            return values(second)
        rounds.update(moved)
        often = [j for j in range(hands) if rounds[j] >= moves]
        if often:
            return (yield ("read", ("view", often[0])))


def shared_put(manner, i, place, value, count):
    _, hands, _, toggles, shakes, _ = manner
    if shakes:
        for j in others(hands, i):
            sign = yield ("read", ("sign", j, i))
            yield ("write", ("call", i, j), 1 - sign)
    view = yield from shared_look(manner, i)
    yield ("write", ("view", i), view)
    yield ("write", ("box", place), (value, i, toggle_behind(count, toggles)))


def by_table(rows):
    row = rows[0]
    while row[0] in ("read", "write"):
        if row[0] == "write":
            yield ("write", ("box", row[1]), row[2])
            row = rows[row[3]]
            continue
        content = yield ("read", ("box", row[1]))
        targets = [target for told, target in row[2] if told == content]
        row = rows[targets[0] if targets else row[3]]
    return row[1] if row[0] == "told" else None


LOOKS = {"once": once_look, "twice": twice_look, "handed": handed_look, "signs": signs_look, "shared": shared_look}
PUTS = {"once": once_put, "twice": twice_put, "handed": handed_put, "signs": signs_put}


def walk_of(manner, hand, deed, ahead):
    word = manner[0]
    if word == "tables":
        return by_table(manner[3 if deed[0] == "put" else 4][hand])
    if deed == ("look",):
        return LOOKS[word](manner, hand)
    _, place, value = deed
    if word == "shared":
        return shared_put(manner, hand, place, value, ahead[place])
    return PUTS[word](manner, hand, value, ahead[place])


class Walk:
    """A deed under way: its next step, which is ("told", thing) behind its last."""

    def __init__(self, manner, hand, deed, ahead):
        self.walk = walk_of(manner, hand, deed, ahead)
        self.step = None
        self.send(None)

    def send(self, content):
        try:
            self.step = self.walk.send(content)
        except StopIteration as end:
            self.step = ("told", end.value)
