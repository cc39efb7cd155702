"""Things of any kind, to be handed in where a function is asked of anything."""


class Agreeing:
    """Says that it equals whatever it is beside."""

    def __eq__(self, other):
        return True

    def __hash__(self):
        return 0

    def __len__(self):
        return 2

    def __getitem__(self, place):
        return self

    def __iter__(self):
        return iter([self, self])


class Refusing:
    """Can't be compared, hashed or measured."""

    __hash__ = None

    def __eq__(self, other):
        raise RuntimeError("not to be compared")

    def __ne__(self, other):
        raise RuntimeError("not to be compared")

    def __lt__(self, other):
        raise RuntimeError("not to be compared")

    def __bool__(self):
        raise RuntimeError("no truth")

    def __len__(self):
        raise RuntimeError("no length")


def nested(kind, depth):
    thing = kind()
    for _ in range(depth - 1):
        thing = kind([thing])
    return thing


def doubled(depth):
    """A tuple that holds the same tuple twice, and so on, so deep."""
    thing = ()
    for _ in range(depth - 1):
        thing = (thing, thing)
    return thing


# None of these is a whole number or a tuple.
NEITHER = (
    None, True, False, "", "0", "1", "look", "once", "box", 0.0, 1.0, 2.5, float("nan"), 1j,
    b"", b"1", bytearray(b"1"), [], [0], [1, 2], ["look"], ["once", 2], {}, {0: 0}, {1: "once"},
    set(), {1}, frozenset(), frozenset([1]), range(2), object(), object, int, len, iter([0]),
    Agreeing(), Refusing(), nested(list, 60), {"a": nested(list, 59)}, ValueError("once"),
)

# These are of those kinds, but no manner, deed or job, alone or as a part where these have a part.
ANYTHING = NEITHER + (
    -1, 10 ** 12, 10 ** 60, -(10 ** 12), (None,), (True,), ("",), ("once",), ("tables",), ("put",),
    (("once", 2),), (("look",),), ([],), ({},), (1.0,), (Agreeing(),), (Refusing(),),
    (Agreeing(), Agreeing()), (Agreeing(), 2, 3), (Refusing(), 2, 3), ([], 2), ({}, 2, 3),
    nested(tuple, 60), nested(tuple, 4), ("once", nested(tuple, 59)), ("sums", nested(tuple, 59)),
)


def with_part(whole, place, part):
    return whole[:place] + (part,) + whole[place + 1:]


def spoiled(thing):
    """Thing with something of another kind in the place of each number or tuple, one at a time, at any depth."""
    if isinstance(thing, bool) or not isinstance(thing, (int, tuple)):
        return []
    if isinstance(thing, int):
        return [bool(thing), float(thing), str(thing), None, [thing], (thing,), Agreeing(), Refusing()]
    found = [list(thing), dict(enumerate(thing)), None, True, "", Agreeing(), Refusing()]
    for place, part in enumerate(thing):
        found.extend([with_part(thing, place, wrong) for wrong in spoiled(part)])
    return found
