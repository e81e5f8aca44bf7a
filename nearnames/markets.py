"""Markets: towns whose houses keep things, each at the houses nearest to its key.

A thing is a tuple (key, number, text); number tells how many layings there were ahead of its own.
"""

from nearnames.names import by_nearness
from nearnames.rests import tide
from nearnames.towns import Town


class Market(Town):
    def __init__(self, wide, room):
        Town.__init__(self, wide, room)
        # By each key the things of the houses that keep one by it.
        self.things = {}
        self.layings = 0

    def lay(self, start, key, text):
        keepers = self.lays(start, key, (key, self.layings, text))
        # Counted behind the laying: one that is refused is none.
        self.layings = self.layings + 1
        return keepers

    def seek(self, start, key):
        row = self.ask(start, key)[0]
        thing = self.newest(key, [house for house, told in row if told is not None])
        return None if thing is None else thing[2]

    def kept(self, house):
        self.check_house(house)
        return [self.things[key][house] for key in sorted(self.things) if house in self.things[key]]

    def tide(self):
        tide(self)
        for key in sorted(self.things):
            self.lays_once_more(key)

    def lays(self, start, key, thing):
        found = self.ask(start, key)[1]
        keepers = by_nearness(key, found + [start])[:self.room]
        for house in keepers:
            self.puts(house, key, thing)
        return keepers

    def lays_once_more(self, key):
        answering = self.answering()
        thing = self.newest(key, answering)
        # A key may be left whose things all went, or lie with silent houses.
        if thing is None:
            return
        start = min([house for house in answering if self.things[key].get(house) == thing])
        keepers = self.lays(start, key, thing)
        for house in answering:
            if house not in keepers:
                self.things[key].pop(house, None)

    def puts(self, house, key, thing):
        keepers = self.things.setdefault(key, {})
        keepers[house] = thing

    def newest(self, key, houses):
        keepers = self.things.get(key, {})
        things = [keepers[house] for house in houses if house in keepers]
        return max(things, key=lambda thing: thing[1], default=None)

    def settles(self, house, visited):
        circle = visited + [house]
        for key in sorted(self.things):
            thing = self.newest(key, circle)
            if thing is not None and house in by_nearness(key, circle)[:self.room]:
                self.puts(house, key, thing)

    def leaves(self, house):
        for key in list(self.things):
            self.things[key].pop(house, None)
