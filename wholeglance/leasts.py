"""The job that waits for some numbers, and answers the least of them."""


def least_course(hand, number, wait, told):
    if len(told) == 0:
        return (("put", hand, (number,)), None)
    for state in told[1:]:
        there = [value for value in state if value != 0]
        if len(there) >= wait:
            return (None, min([value[0] for value in there]))
    return (("look",), None)
