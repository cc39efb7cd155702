"""The job that counts by putting sums and looking."""


def sums_course(hand, items, told):
    done = len(told)
    if done < len(items):
        return (sums_deed(hand, items, done), None)
    return (None, tuple([sum(told[place]) for place, item in enumerate(items) if item is None]))


def sums_deed(hand, items, done):
    if items[done] is None:
        return ("look",)
    return ("put", hand, sum([item for item in items[:done + 1] if item is not None]))
