"""What several of the test files need."""


class Answers:
    """Tells whether a name answers, and writes down each name that it was asked of."""

    def __init__(self, answering):
        self.answering = answering
        self.asked = []

    def __call__(self, name):
        self.asked.append(name)
        return name in self.answering


def never_asked(name):
    raise AssertionError(f"asked of {name}")


class Unlike:
    """Fails whatever is asked of it: a refusal may not hang on the thing's own deeds."""

    def fail(self, *given):
        raise RuntimeError("asked")

    __eq__ = __lt__ = __le__ = __gt__ = __ge__ = __len__ = __iter__ = __bool__ = __repr__ = __str__ = fail
    __hash__ = None


def deep_list():
    deep = []
    for turn in range(100000):
        deep = [deep]
    return deep


def no_numbers():
    """Things that are no whole numbers, some of them like one to Python; None is left to the askers."""
    return [True, False, "", "0", "1", "0001", " 1", [], [0], [1], (), (0,), (1, 2), {}, {1: 1}, 0.0, 1.0, 2.5, b"1",
            {1}, frozenset(), object(), int, len, Unlike(), deep_list()]


def whole(town):
    """All that a town can tell of itself: its houses, those that answer, and each bucket in its order."""
    tables = {house: [town.bucket(house, k) for k in range(town.wide)] for house in town.houses()}
    return (town.wide, town.room, town.houses(), town.answering(), tables)


def kept_by(town, house):
    """The buckets of a house that aren't empty, by their steps."""
    return {k: town.bucket(house, k) for k in range(town.wide) if town.bucket(house, k)}
