"""The rooms of orders: which rows of a story are done, as the bits of a number, and the state then."""

from wholeglance.stories_told import is_ahead


def bits_of(numbers):
    return sum([1 << number for number in numbers])


def ended_bits(story):
    return bits_of([number for number, row in enumerate(story) if row[3] is not None])


def plan_of(story):
    # Which rows are ahead of a row is asked in each room, so it is found but once.
    plan = []
    for number, row in enumerate(story):
        ahead = [earlier for earlier, other in enumerate(story) if is_ahead(other, row)]
        plan.append((number, bits_of(ahead), row))
    return plan


def leads(plan, done, state):
    # Pairs of a row that may be done next, and the room behind it.
    found = []
    for number, ahead, row in plan:
        bit = 1 << number
        if done & bit == 0 and done & ahead == ahead and fits(row, state):
            found.append((number, (done | bit, state_behind(row, state))))
    return found


def fits(row, state):
    # A look without an end told None, which is no state, so it fits none.
    return row[1][0] == "put" or row[4] == state


def state_behind(row, state):
    deed = row[1]
    if deed[0] == "look":
        return state
    return state[:deed[1]] + (deed[2],) + state[deed[1] + 1:]
