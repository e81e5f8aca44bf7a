"""Names: how they are written, how far they are apart, and which is nearer to a goal."""

from nearnames.errors import NoName


def is_whole(thing):
    # Python counts the truths among its ints; here they are no whole numbers.
    return isinstance(thing, int) and not isinstance(thing, bool)


def is_name(thing, wide):
    return is_whole(thing) and thing >= 0 and thing.bit_length() <= wide


def far(one, other):
    return one ^ other


def nearer(goal, one, other):
    return far(goal, one) < far(goal, other)


def by_nearness(goal, names):
    # Unlike names are never alike far, so the outer order leaves nothing open.
    return sorted(sorted(set(names)), key=lambda name: far(goal, name))


def step(one, other):
    return far(one, other).bit_length() - 1


def span(name, k):
    # Ahead of the step the figures are the name's own, at it the other one, behind it any.
    low = ((name >> k) ^ 1) << k
    high = low | ((1 << k) - 1)
    return (low, high)


def shown(name, wide):
    return "".join([str((name >> place) & 1) for place in range(wide - 1, -1, -1)])


def is_written(text, wide):
    # The kind is asked first: a list of signs has a length and members, too.
    return isinstance(text, str) and len(text) == wide and all([sign in ("0", "1") for sign in text])


def read(text, wide):
    # The error doesn't show what was handed in: not everything can be shown.
    if not is_written(text, wide):
        raise NoName(f"not a name of {wide} signs")
    name = 0
    for sign in text:
        name = name * 2 + (1 if sign == "1" else 0)
    return name
