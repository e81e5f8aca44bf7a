"""Towns: houses with their tables, that come, go, fall silent and wake, and ask one another."""

from nearnames.asks import asked, way
from nearnames.errors import NoHouse, NoName, NoSize, Silent, Taken
from nearnames.names import is_name, is_whole
from nearnames.tables import Table


def is_size(thing, most):
    return is_whole(thing) and 1 <= thing <= most


class Town:
    def __init__(self, wide, room):
        if not is_size(wide, 60):
            raise NoSize("wide is a whole number from 1 to 60")
        if not is_size(room, 8):
            raise NoSize("room is a whole number from 1 to 8")
        self.wide = wide
        self.room = room
        self.tables = {}
        self.silent = {}

    def houses(self):
        return sorted(self.tables)

    def answering(self):
        return [house for house in self.houses() if self.answers(house)]

    def answers(self, name):
        return self.is_house(name) and name not in self.silent

    def is_house(self, thing):
        # Not everything can be a dict's key, and a truth is like 0 or 1 as one: names alone are looked up.
        return is_name(thing, self.wide) and thing in self.tables

    def bucket(self, house, k):
        self.check_house(house)
        return self.tables[house].bucket(k)

    def keeps(self, house):
        self.check_house(house)
        return self.tables[house].keeps()

    def tells(self, house, goal, asker):
        if not self.answers(house):
            return None
        return self.tables[house].nearest(goal, self.room, asker)

    def come_to(self, house):
        self.check_answering(house)
        reached = {house: True}
        waiting = [house]
        while len(waiting) > 0:
            here = waiting.pop()
            for name in self.tables[here].keeps():
                if name not in reached and self.answers(name):
                    reached[name] = True
                    waiting.append(name)
        return sorted(reached)

    def ask(self, start, goal):
        self.check_answering(start)
        self.check_name(goal)
        answer = asked(start, goal, self.room, self.teller())
        self.learns(start, answer[0])
        return answer

    def way(self, start, goal):
        self.check_answering(start)
        self.check_name(goal)
        return way(start, goal, self.teller())

    def come(self, name, door=None):
        self.check_name(name)
        if self.is_house(name):
            raise Taken("there is a house of this name")
        if door is not None:
            self.check_answering(door)
        self.tables[name] = Table(name, self.wide, self.room)
        visited = [] if door is None else self.visits(name, door)
        self.settles(name, visited)
        return visited

    def go(self, house):
        self.check_house(house)
        self.tables.pop(house)
        # Else a house that comes again by this name would lie silent.
        self.silent.pop(house, None)
        self.leaves(house)

    def hush(self, house):
        self.check_house(house)
        self.silent[house] = True

    def wake(self, house, door):
        self.check_house(house)
        if self.answers(house):
            raise Taken("this house answers")
        self.check_answering(door)
        self.silent.pop(house)
        visited = self.visits(house, door)
        self.settles(house, visited)
        return visited

    def check_name(self, thing):
        if not is_name(thing, self.wide):
            raise NoName("not a name of the town's wide")

    def check_house(self, thing):
        if not self.is_house(thing):
            raise NoHouse("no house of the town")

    def check_answering(self, thing):
        self.check_house(thing)
        if not self.answers(thing):
            raise Silent("this house is silent")

    def teller(self):
        return lambda house, goal, asker: self.tells(house, goal, asker)

    def settles(self, house, visited):
        # A town keeps no things; a market lets a house that came or woke take its own here.
        pass

    def leaves(self, house):
        # As above: here a house that went takes its things along.
        pass

    def learns(self, start, row):
        for house, told in row[1:]:
            if told is None:
                self.tables[start].drops(house)
            else:
                self.meet(start, house)

    def drops_lost(self, house):
        for name in self.keeps(house):
            if not self.answers(name):
                self.tables[house].drops(name)

    def visits(self, house, door):
        # Reckoned once the house answers, so its own table may lead on.
        visited = [name for name in self.come_to(door) if name != house]
        for name in visited:
            self.meet(house, name)
        return visited

    def meet(self, one, other):
        self.hears_of(one, other)
        self.hears_of(other, one)

    def hears_of(self, house, name):
        self.tables[house].hears(name, lambda first: self.answers(first))
