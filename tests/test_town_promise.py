"""What is certain of whole towns: what asks and ways come to, at rest and behind some losses."""

import random
import unittest

from helpers import Model, by_nearness, whole
from nearnames.towns import Town


def grown_town(draw, wide, room, many):
    """A town whose houses came one behind another, the first one alone, the others by doors."""
    town = Town(wide, room)
    while len(town.houses()) < many:
        come_by_a_door(draw, town)
    return town


def come_by_a_door(draw, town):
    name = draw.getrandbits(town.wide)
    if name not in town.houses():
        town.come(name, draw.choice(town.answering() or [None]))


def near_names(draw, wide):
    """Names that are alike in their first signs, so that buckets of small steps are filled, too."""
    base = draw.getrandbits(wide)
    return [base ^ draw.getrandbits(draw.randint(1, wide)) for turn in range(60)]


class Promise(unittest.TestCase):
    def check_at_rest(self, town, starts, goals):
        answering = town.answering()
        for start in starts:
            others = [house for house in answering if house != start]
            for goal in goals:
                self.assertEqual(town.ask(start, goal)[1], by_nearness(goal, others)[:town.room])
                self.check_way(town, start, goal)

    def check_way(self, town, start, goal):
        told = town.way(start, goal)
        self.assertEqual(told[0], start)
        self.assertEqual(told[-1], by_nearness(goal, town.answering())[0])
        self.assertLessEqual(len(told) - 1, town.wide)
        for ahead, behind in zip(told, told[1:]):
            self.assertLess(behind ^ goal, ahead ^ goal)

    def check_first_found(self, town, goals):
        for start in town.answering():
            others = [house for house in town.answering() if house != start]
            for goal in goals:
                self.assertEqual(town.ask(start, goal)[1][:1], by_nearness(goal, others)[:1])

    def check_ways_end(self, town, goals):
        for start in town.answering():
            for goal in goals:
                self.assertEqual(town.way(start, goal)[-1], by_nearness(goal, town.answering())[0])


class TestAtRest(Promise):
    def test_from_each_house_for_each_name(self):
        for room in range(1, 9):
            town = grown_town(random.Random(room), 6, room, 30)
            self.check_at_rest(town, town.houses(), range(64))

    def test_all_names_are_houses(self):
        for wide in [1, 2, 3, 5]:
            for room in [1, 2, 8]:
                town = grown_town(random.Random(wide), wide, room, 2 ** wide)
                self.check_at_rest(town, town.houses(), range(2 ** wide))

    def test_small_towns_while_they_grow(self):
        for seed in range(20):
            draw = random.Random(seed)
            town = Town(4, draw.randint(1, 8))
            for turn in range(16):
                come_by_a_door(draw, town)
                self.check_at_rest(town, town.houses(), range(16))

    def test_long_names(self):
        for room in [1, 3, 8]:
            draw = random.Random(room)
            town = Town(60, room)
            names = near_names(draw, 60)
            for name in names[:36]:
                if name not in town.houses():
                    town.come(name, draw.choice(town.answering() or [None]))
            goals = [0, 2 ** 60 - 1] + town.houses() + names[36:]
            self.check_at_rest(town, town.houses()[::4], goals)


class TestBehindLosses(Promise):
    def lose(self, draw, town):
        if len(town.answering()) > 1:
            deed = draw.choice([town.go, town.hush])
            deed(draw.choice(town.answering()))

    def test_fewer_than_room_are_lost(self):
        for room in range(1, 9):
            for seed in range(3):
                draw = random.Random(10 * room + seed)
                town = grown_town(draw, 6, room, 30)
                for turn in range(room - 1):
                    self.lose(draw, town)
                self.check_ways_end(town, range(64))
                self.check_first_found(town, range(0, 64, 3))
                self.check_ways_end(town, range(64))

    def test_houses_come_between(self):
        for seed in range(30):
            draw = random.Random(seed)
            room = draw.randint(2, 6)
            town = grown_town(draw, 5, room, draw.randint(1, 20))
            losses = [True] * (room - 1) + [False] * 8
            draw.shuffle(losses)
            for lost in losses:
                if lost:
                    self.lose(draw, town)
                else:
                    come_by_a_door(draw, town)
                self.check_ways_end(town, range(0, 32, 5))
                if draw.randrange(2):
                    self.check_first_found(town, range(0, 32, 3))

    def test_the_nearest_ones_are_lost(self):
        for room in [2, 3, 8]:
            for goal in [0, 21, 63]:
                for deed in [Town.go, Town.hush]:
                    town = grown_town(random.Random(goal), 6, room, 32)
                    for house in by_nearness(goal, town.houses())[:room - 1]:
                        deed(town, house)
                    self.check_ways_end(town, [goal])
                    self.check_first_found(town, [goal])


class TestManyDeeds(unittest.TestCase):
    def both(self, word, *given):
        """One deed to the town and to the model: both tell the same, and look alike behind it."""
        self.assertEqual(getattr(self.town, word)(*given), getattr(self.model, word)(*given), (word, given))
        self.assertEqual(whole(self.town), self.model.whole())

    def one_deed(self, draw):
        houses, answering = self.town.houses(), self.town.answering()
        silent = [house for house in houses if house not in answering]
        name, goal = draw.getrandbits(self.town.wide), draw.getrandbits(self.town.wide)
        word = draw.choice("come come come come ask ask ask way come_to tells go hush hush wake wake".split())
        if word == "come" and name not in houses:
            self.both("come", name, draw.choice((answering or [None]) + [None] * (draw.randrange(6) == 0)))
        if word in ["go", "hush"] and houses:
            self.both(word, draw.choice(houses))
        if word == "wake" and silent and answering:
            self.both("wake", draw.choice(silent), draw.choice(answering))
        if word in ["ask", "way"] and answering:
            self.both(word, draw.choice(answering), goal)
        if word == "come_to" and answering:
            self.both("come_to", draw.choice(answering))
        if word == "tells":
            self.both("tells", name, goal, draw.getrandbits(self.town.wide))

    def test_as_the_law_says(self):
        for seed in range(60):
            draw = random.Random(seed)
            wide, room = draw.choice([1, 2, 3, 4, 4, 5, 5, 6, 60]), draw.randint(1, 8)
            self.town, self.model = Town(wide, room), Model(wide, room)
            for turn in range(120):
                self.one_deed(draw)

    def test_the_same_deeds_make_the_same_town(self):
        towns = []
        for turn in range(2):
            draw = random.Random(7)
            town = grown_town(draw, 6, 3, 30)
            for house in town.houses()[::5]:
                town.hush(house)
            told = [town.ask(start, draw.getrandbits(6)) for start in town.answering()]
            towns.append((told, whole(town)))
        self.assertEqual(towns[0], towns[1])


if __name__ == "__main__":
    unittest.main()
