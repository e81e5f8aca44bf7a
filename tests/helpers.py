"""What several of the test files need."""


class Answers:
    """Tells whether a name answers, and writes down each name that it was asked of."""

    def __init__(self, answering):
        self.answering = answering
        self.asked = []

    def __call__(self, name):
        self.asked.append(name)
        return name in self.answering


def never_asked(name):
    raise AssertionError(f"asked of {name}")


class Unlike:
    """Fails whatever is asked of it: a refusal may not hang on the thing's own deeds."""

    def fail(self, *given):
        raise RuntimeError("asked")

    __eq__ = __lt__ = __le__ = __gt__ = __ge__ = __len__ = __iter__ = __bool__ = __repr__ = __str__ = fail
    __hash__ = None


def deep_list():
    deep = []
    for turn in range(100000):
        deep = [deep]
    return deep


def no_numbers():
    """Things that are no whole numbers, some of them like one to Python; None is left to the askers."""
    return [True, False, "", "0", "1", "0001", " 1", [], [0], [1], (), (0,), (1, 2), {}, {1: 1}, 0.0, 1.0, 2.5, b"1",
            {1}, frozenset(), object(), int, len, Unlike(), deep_list()]


def no_names():
    """Things that are no names of three signs."""
    return no_numbers() + [None, -1, -8, 8, 9, 2 ** 60, 10 ** 59]


# In a town of all sorts 0, 1 and 5 answer, 2 and 6 are silent, 4 went though others keep it, 3 and 7 never were.
ANSWERING, SILENT, FREE = [0, 1, 5], [2, 6], [3, 4, 7]


def of_all_sorts(town):
    town.come(0)
    for name in [1, 2, 4, 5, 6]:
        town.come(name, 0)
    town.go(4)
    town.hush(2)
    town.hush(6)
    return town


def filled(town, names):
    """The town with these houses, the first one come alone, the others by the first as their door."""
    town.come(names[0])
    for name in names[1:]:
        town.come(name, names[0])
    return town


def whole(town):
    """All that a town can tell of itself: its houses, those that answer, and each bucket in its order."""
    tables = {house: [town.bucket(house, k) for k in range(town.wide)] for house in town.houses()}
    return (town.wide, town.room, town.houses(), town.answering(), tables)


def whole_market(market):
    """All of a market: as of a town, and the things of each house."""
    return whole(market) + ({house: market.kept(house) for house in market.houses()},)


def kept_by(town, house):
    """The buckets of a house that aren't empty, by their steps."""
    return {k: town.bucket(house, k) for k in range(town.wide) if town.bucket(house, k)}


def by_nearness(goal, names):
    return sorted(names, key=lambda name: name ^ goal)


class Model:
    """The law of towns once more, told by itself: {house: [bucket, ..]} and the silent ones, no more."""

    def __init__(self, wide, room):
        self.wide, self.room = wide, room
        self.tables, self.silent = {}, set()

    def answering(self):
        return sorted(set(self.tables) - self.silent)

    def hears(self, house, name):
        order = self.tables[house][(house ^ name).bit_length() - 1]
        if name in order:
            order.remove(name)
        elif len(order) == self.room:
            first = order.pop(0)
            name = first if first in self.answering() else name
        order.append(name)

    def come_to(self, house):
        reached = set()
        more = {house}
        while more - reached:
            reached |= more
            kept = {name for one in reached for order in self.tables[one] for name in order}
            more = kept & set(self.answering())
        return sorted(reached)

    def visits(self, house, door):
        visited = [name for name in self.come_to(door) if name != house]
        for name in visited:
            self.hears(house, name)
            self.hears(name, house)
        return visited

    def come(self, name, door=None):
        self.tables[name] = [[] for k in range(self.wide)]
        return [] if door is None else self.visits(name, door)

    def go(self, house):
        self.tables.pop(house)
        self.silent.discard(house)

    def hush(self, house):
        self.silent.add(house)

    def wake(self, house, door):
        self.silent.discard(house)
        return self.visits(house, door)

    def tells(self, house, goal, asker):
        if house not in self.answering():
            return None
        return by_nearness(goal, {name for order in self.tables[house] for name in order} - {asker})[:self.room]

    def ask(self, start, goal):
        row = [(start, self.tells(start, goal, start))]
        while True:
            seen = {name for house, told in row for name in told or []} - {start}
            stand = by_nearness(goal, seen - {house for house, told in row if told is None})[:self.room]
            waiting = [name for name in stand if name not in [house for house, told in row]]
            if not waiting:
                break
            row.append((waiting[0], self.tells(waiting[0], goal, start)))
        for house, told in row[1:]:
            if told is not None:
                self.hears(start, house)
                self.hears(house, start)
            else:
                for order in self.tables[start]:
                    order[:] = [name for name in order if name != house]
        return row, stand

    def way(self, start, goal):
        houses = [start]
        while True:
            here = houses[-1]
            told = [name for name in self.tells(here, goal, here) if name in self.answering()]
            if not told or told[0] ^ goal >= here ^ goal:
                return houses
            houses.append(told[0])

    def whole(self):
        return (self.wide, self.room, sorted(self.tables), self.answering(), self.tables)

    def of_step(self, house, k):
        return {other for other in self.answering() if (house >> k) ^ (other >> k) == 1}

    def fault(self):
        answering = set(self.answering())
        for house in sorted(answering):
            for k, order in enumerate(self.tables[house]):
                if set(order) - answering or len(order) < self.room and self.of_step(house, k) - set(order):
                    return house, k
        return None

    def holes(self):
        answering = set(self.answering())
        return [(house, k) for house in sorted(answering) for k, order in enumerate(self.tables[house])
                if self.of_step(house, k) and not answering & set(order)]

    def look_round(self, house):
        for order in self.tables[house]:
            order[:] = [name for name in order if name in self.answering()]
        return self.visits(house, house)

    def tide(self):
        for house in self.answering():
            self.look_round(house)


class MarketModel(Model):
    """The law of markets, by {house: {key: thing}} on top of the law of towns."""

    def __init__(self, wide, room):
        Model.__init__(self, wide, room)
        self.things, self.layings = {}, 0

    def newest(self, key, houses):
        things = [self.things[house][key] for house in houses if key in self.things[house]]
        return sorted(things, key=lambda thing: thing[1])[-1] if things else None

    def takes(self, house, visited):
        group = set(visited) | {house}
        for key in {key for one in group for key in self.things[one]}:
            if sum(one ^ key < house ^ key for one in group) < self.room:
                self.things[house][key] = self.newest(key, group)
        return visited

    def come(self, name, door=None):
        self.things[name] = {}
        return self.takes(name, Model.come(self, name, door))

    def wake(self, house, door):
        return self.takes(house, Model.wake(self, house, door))

    def go(self, house):
        Model.go(self, house)
        self.things.pop(house)

    def put(self, start, thing):
        keepers = by_nearness(thing[0], self.ask(start, thing[0])[1] + [start])[:self.room]
        for house in keepers:
            self.things[house][thing[0]] = thing
        return keepers

    def lay(self, start, key, text):
        self.layings += 1
        return self.put(start, (key, self.layings - 1, text))

    def seek(self, start, key):
        row, found = self.ask(start, key)
        thing = self.newest(key, [house for house, told in row if told is not None])
        return thing and thing[2]

    def kept(self, house):
        return sorted(self.things[house].values())

    def tide(self):
        Model.tide(self)
        answering = self.answering()
        for key in sorted({key for house in answering for key in self.things[house]}):
            thing = self.newest(key, answering)
            keepers = self.put([house for house in answering if self.things[house].get(key) == thing][0], thing)
            for house in set(answering) - set(keepers):
                self.things[house].pop(key, None)

    def whole(self):
        return Model.whole(self) + ({house: self.kept(house) for house in sorted(self.tables)},)
