"""Orders and rooms of stories, by the document's words."""

from itertools import combinations, permutations


def ahead(row, other):
    return row[3] is not None and not row[3] > other[2]


def fits_order(places, story, order):
    """Whether unlike numbers of rows are an order."""
    for number, row in enumerate(story):
        if row[3] is not None and number not in order:
            return False
        if row[3] is None and number in order and row[1] == ("look",):
            return False
    state = [0] * places
    for place, number in enumerate(order):
        if any(ahead(story[number], story[earlier]) for earlier in order[:place]):
            return False
        deed, told = story[number][1], story[number][4]
        if deed == ("look",):
            if told != tuple(state):
                return False
        else:
            state[deed[1]] = deed[2]
    return True


def choices(story):
    """All tuples of unlike numbers of rows."""
    numbers = range(len(story))
    return [order for size in range(len(story) + 1) for some in combinations(numbers, size)
            for order in permutations(some)]


def all_orders(places, story):
    return [order for order in choices(story) if fits_order(places, story, order)]


def behind(story, room):
    """The rooms behind each row that may be done next."""
    done, state = room
    found = []
    for number, (_, deed, _, _, told) in enumerate(story):
        waits = [other for other in range(len(story)) if ahead(story[other], story[number]) and other not in done]
        if number in done or waits:
            continue
        if deed == ("look",):
            if told == state:
                found.append((tuple(sorted(done + (number,))), state))
        else:
            put = state[:deed[1]] + (deed[2],) + state[deed[1] + 1:]
            found.append((tuple(sorted(done + (number,))), put))
    return found


def closure(story, rooms):
    """These rooms and all to which they lead, and whether in one of them all rows with an end are done."""
    seen = dict.fromkeys(rooms)
    still = list(seen)
    while still:
        for room in behind(story, still.pop()):
            if room not in seen:
                seen[room] = None
                still.append(room)
    ended = [number for number, row in enumerate(story) if row[3] is not None]
    return tuple(seen), any(all(number in done for number in ended) for done, _ in seen)


def drawn_story(places, chance, most, fitting):
    """A story of at most so many rows; where it is to fit, its looks tell what stood at a moment within them."""
    rows = []
    free = [0] * 10
    for _ in range(chance.randint(0, most)):
        hand = chance.randrange(chance.choice((2, 3, 10)))
        if free[hand] is None:
            continue
        begin = free[hand] + chance.randint(0, 3)
        end = begin + chance.randint(1, 5)
        free[hand] = end
        if chance.random() < 0.15:
            end = free[hand] = None
        deed = ("look",) if chance.random() < 0.5 else ("put", chance.randrange(places), chance.randint(0, 2))
        rows.append([hand, deed, begin, end, None])
    rows.sort(key=lambda row: row[2])
    tell(places, rows, chance, fitting)
    return tuple(tuple(row) for row in rows)


def tell(places, rows, chance, fitting):
    state = [0] * places
    moments = [(chance.uniform(row[2], row[3] if row[3] is not None else row[2] + 4), place)
               for place, row in enumerate(rows)]
    for _, place in sorted(moments):
        row = rows[place]
        if row[1] != ("look",):
            state[row[1][1]] = row[1][2]
        elif row[3] is not None:
            right = fitting or chance.random() < 0.7
            row[4] = tuple(state) if right else tuple(chance.randint(0, 2) for _ in range(places))
