"""What a thing of any kind is, asked without trusting how it compares."""


def is_whole(thing):
    return isinstance(thing, int) and not isinstance(thing, bool)


def is_within(thing, least, most):
    return is_whole(thing) and least <= thing <= most


def is_figured(thing, most):
    # Both signs have the same figures, so one bound serves for both.
    return is_within(thing, -most, most)


def is_tuple_of(thing, least, most):
    return isinstance(thing, tuple) and least <= len(thing) <= most


def word_of(thing):
    # The kind is asked first: a thing may say that it equals a text and be none.
    if isinstance(thing, tuple) and len(thing) > 0 and isinstance(thing[0], str):
        return thing[0]
    return None


def is_same(thing, value):
    # The value is walked, not the thing, which may be far larger; a truth in it is no number.
    if not isinstance(value, tuple):
        return is_whole(thing) and thing == value
    if not is_tuple_of(thing, len(value), len(value)):
        return False
    return all([is_same(part, own) for part, own in zip(thing, value)])
