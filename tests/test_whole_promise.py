"""What is certain of the whole program: of towns and markets at rest, behind some losses, and behind a tide."""

import random
import unittest

from helpers import by_nearness
from nearnames import rests
from nearnames.markets import Market
from nearnames.towns import Town
from test_town_promise import Promise, near_names


def far_names(draw, wide):
    return [draw.getrandbits(wide) for turn in range(60)]


def sorts_of_towns():
    """Sizes and names of many a sort: (draw, wide, room, names), names near one another and far apart."""
    for room in range(1, 9):
        for wide in [1, 3, 5, 6, 12, 60]:
            for drawn in [near_names, far_names]:
                draw = random.Random(f"{room} {wide} {drawn.__name__}")
                yield draw, wide, room, drawn(draw, wide)


def arrive(draw, town, names, most=40):
    """Houses of these names come by doors that answer, the first one alone."""
    for name in names:
        if name not in town.houses() and len(town.houses()) < most:
            town.come(name, draw.choice(town.answering() or [None]))


def lose(draw, town):
    """One house that answers is lost, but never the last one."""
    if len(town.answering()) > 1:
        deed = draw.choice([town.go, town.hush])
        deed(draw.choice(town.answering()))


def lay_some(draw, market, keys):
    """Things by each key, some of them laid more than once; told are the last ones laid."""
    last = {}
    for turn in range(2 * len(keys)):
        key, text = draw.choice(keys), f"text {turn}"
        market.lay(draw.choice(market.answering()), key, text)
        last[key] = text
    return last


def is_one_circle(town):
    return all(town.come_to(house) == town.answering() for house in town.answering())


class Whole(Promise):
    def check_found(self, market, last):
        for key, text in last.items():
            for start in market.answering():
                self.assertEqual(market.seek(start, key), text)

    def check_kept_by_the_nearest(self, market, newest):
        """By each key just the room nearest answering houses keep the newest thing."""
        for house in market.answering():
            things = {thing[0]: thing for thing in market.kept(house)}
            for key, thing in newest.items():
                nearest = by_nearness(key, market.answering())[:market.room]
                self.assertEqual(things.pop(key, None), thing if house in nearest else None)
            self.assertEqual(things, {})

    def newest_kept(self, market):
        newest = {}
        for house in market.answering():
            for thing in market.kept(house):
                newest[thing[0]] = max(thing, newest.get(thing[0], thing))
        return newest


class TestRest(Whole):
    def test_behind_each_coming(self):
        for draw, wide, room, names in sorts_of_towns():
            town = draw.choice([Town, Market])(wide, room)
            self.assertIsNone(rests.fault(town))
            for name in names[:40]:
                arrive(draw, town, [name])
                self.assertIsNone(rests.fault(town))
            self.assertEqual(rests.holes(town), [])

    def test_while_houses_ask_lay_and_seek(self):
        for draw, wide, room, names in sorts_of_towns():
            market = Market(wide, room)
            arrive(draw, market, names[:draw.choice([1, 2, 5, 40])])
            for turn in range(12):
                key = draw.choice(names)
                market.ask(draw.choice(market.answering()), key)
                market.lay(draw.choice(market.answering()), key, "some")
                self.assertEqual(market.seek(draw.choice(market.answering()), key), "some")
                self.assertIsNone(rests.fault(market))

    def test_asks_and_ways(self):
        for draw, wide, room, names in sorts_of_towns():
            town = Market(wide, room)
            arrive(draw, town, names)
            starts = draw.sample(town.houses(), min(4, len(town.houses())))
            self.check_at_rest(town, starts, draw.sample(names, 8) + [0, 2 ** wide - 1])

    def test_with_silent_houses_in_a_town_at_rest(self):
        # Behind a tide silent houses lie about, and what they keep does not count.
        for draw, wide, room, names in sorts_of_towns():
            town = Market(wide, room)
            arrive(draw, town, names, 25)
            for turn in range(8):
                lose(draw, town)
            if is_one_circle(town):
                town.tide()
                self.assertIsNone(rests.fault(town))
                arrive(draw, town, names[::-1])
                self.assertIsNone(rests.fault(town))
                self.check_at_rest(town, town.answering()[:3], draw.sample(names, 6))

    def test_things_at_rest(self):
        for draw, wide, room, names in sorts_of_towns():
            market = Market(wide, room)
            arrive(draw, market, names[:40])
            for key in draw.sample(names, 5):
                keepers = market.lay(draw.choice(market.answering()), key, "some")
                self.assertEqual(keepers, by_nearness(key, market.answering())[:room])


class TestBehindLosses(Whole):
    def check_all(self, draw, market, names, last):
        self.assertEqual(rests.holes(market), [])
        goals = draw.sample(names, 4) + list(last)
        self.check_ways_end(market, goals)
        if draw.randrange(2):
            self.check_first_found(market, goals[:3])
            self.assertEqual(rests.holes(market), [])
        self.check_found(market, last)
        self.assertEqual(rests.holes(market), [])

    def test_between_two_rests(self):
        for draw, wide, room, names in sorts_of_towns():
            market = Market(wide, room)
            arrive(draw, market, names[:draw.choice([2, 8, 25])])
            for rest in range(2):
                last = lay_some(draw, market, draw.sample(names, 4))
                losses = [True] * (room - 1) + [False] * 5
                draw.shuffle(losses)
                for lost in losses:
                    if lost:
                        lose(draw, market)
                    else:
                        arrive(draw, market, draw.sample(names, 3))
                self.check_all(draw, market, names, last)
                newest = self.newest_kept(market)
                market.tide()
                self.assertIsNone(rests.fault(market))
                self.check_kept_by_the_nearest(market, newest)

    def test_behind_each_loss_and_each_coming(self):
        for draw, wide, room, names in sorts_of_towns():
            if wide < 60 and room in [2, 3, 5, 8]:
                market = Market(wide, room)
                arrive(draw, market, names[:15])
                last = lay_some(draw, market, draw.sample(names, 3))
                for turn in range(room - 1):
                    lose(draw, market)
                    self.check_all(draw, market, names, last)
                    arrive(draw, market, draw.sample(names, 2), 25)
                    self.check_all(draw, market, names, last)

    def test_the_keepers_themselves_are_lost(self):
        for draw, wide, room, names in sorts_of_towns():
            for deed in [Market.go, Market.hush]:
                market = Market(wide, room)
                arrive(draw, market, names[:20])
                key = draw.choice(names)
                keepers = market.lay(market.answering()[0], key, "some")
                for house in keepers[:min(room, len(market.houses())) - 1]:
                    deed(market, house)
                    self.check_ways_end(market, [key])
                    self.check_found(market, {key: "some"})
                self.assertEqual(rests.holes(market), [])

    def test_things_that_a_tide_laid(self):
        # By the tide's rest they are as those laid at it, though their layings lie behind.
        for draw, wide, room, names in sorts_of_towns():
            market = Market(wide, room)
            arrive(draw, market, names[:20])
            last = lay_some(draw, market, draw.sample(names, 4))
            for rest in range(3):
                for turn in range(room - 1):
                    lose(draw, market)
                arrive(draw, market, draw.sample(names, 4))
                self.check_found(market, last)
                market.tide()
            self.check_found(market, last)


class TestTides(Whole):
    def some_deed(self, draw, market, names, keys):
        houses, answering = market.houses(), market.answering()
        silent = [house for house in houses if house not in answering]
        word = draw.choice("come come come alone lay lay seek go hush hush wake wake".split())
        name = draw.choice(names)
        if word in ["come", "alone"] and name not in houses and len(houses) < 40:
            market.come(name, None if word == "alone" or not answering else draw.choice(answering))
        if word == "wake" and silent and answering:
            market.wake(draw.choice(silent), draw.choice(answering))
        if word in ["go", "hush"] and answering:
            getattr(market, word)(draw.choice(answering))
        if word == "lay" and answering:
            market.lay(draw.choice(answering), draw.choice(keys), "some")
        if word == "seek" and answering:
            market.seek(draw.choice(answering), draw.choice(keys))

    def test_where_each_is_come_to_from_each(self):
        tried = 0
        for draw, wide, room, names in sorts_of_towns():
            for seed in range(3):
                market = Market(wide, room)
                for turn in range(draw.choice([5, 20, 60])):
                    self.some_deed(draw, market, names, names[:4])
                if is_one_circle(market):
                    tried += rests.fault(market) is not None
                    newest = self.newest_kept(market)
                    market.tide()
                    self.assertIsNone(rests.fault(market))
                    self.check_kept_by_the_nearest(market, newest)
        self.assertGreater(tried, 50)

    def test_looking_round_alone_brings_rest_too(self):
        for draw, wide, room, names in sorts_of_towns():
            for kind in [Town, Market]:
                town = kind(wide, room)
                arrive(draw, town, names[:25])
                for turn in range(room - 1):
                    lose(draw, town)
                rests.tide(town)
                self.assertIsNone(rests.fault(town))


class TestNobodyIsForgotten(unittest.TestCase):
    def held(self, market):
        """For each answering house those that it keeps and that answer."""
        return {house: [name for name in market.keeps(house) if market.answers(name)] for house in market.answering()}

    def test_a_house_that_answers_is_never_forgotten(self):
        for draw, wide, room, names in sorts_of_towns():
            market = Market(wide, room)
            deeds = TestTides()
            for turn in range(40):
                ahead = self.held(market)
                if draw.randrange(10):
                    deeds.some_deed(draw, market, names, names[:4])
                else:
                    market.tide()
                behind = self.held(market)
                for house in ahead:
                    if house in behind:
                        self.assertEqual([name for name in ahead[house] if market.answers(name)],
                                         [name for name in behind[house] if name in ahead[house]])


if __name__ == "__main__":
    unittest.main()
