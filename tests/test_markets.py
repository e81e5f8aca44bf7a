import random
import unittest

from helpers import MarketModel, Model, filled, no_numbers, whole, whole_market
from nearnames import rests
from nearnames.errors import NoSize
from nearnames.markets import Market
from nearnames.towns import Town


def small_market(room):
    return filled(Market(3, room), [0, 4, 5, 7])


def things(market):
    """The things of all houses that keep some."""
    return {house: market.kept(house) for house in market.houses() if market.kept(house)}


class TestMarket(unittest.TestCase):
    def test_a_market_is_a_town(self):
        market = Market(3, 2)
        self.assertIsInstance(market, Town)
        self.assertEqual((market.wide, market.room), (3, 2))
        self.assertEqual(whole(small_market(2)), whole(filled(Town(3, 2), [0, 4, 5, 7])))

    def test_sizes(self):
        for wide, room in [(1, 1), (60, 8), (1, 8), (60, 1)]:
            self.assertEqual(whole_market(Market(wide, room)), (wide, room, [], [], {}, {}))
        for thing in no_numbers() + [None, 0, -1, 61, 10 ** 59]:
            for wide, room in [(thing, 2), (3, thing), (thing, thing)]:
                with self.assertRaises(NoSize):
                    Market(wide, room)
        with self.assertRaises(NoSize):
            Market(3, 9)

    def test_two_markets_share_nothing(self):
        one, other = small_market(2), small_market(2)
        one.lay(0, 7, "some")
        self.assertEqual(things(other), {})
        self.assertEqual(other.lay(0, 7, "other"), [7, 5])
        self.assertEqual(other.kept(7), [(7, 0, "other")])
        self.assertEqual(one.kept(7), [(7, 0, "some")])


class TestLay(unittest.TestCase):
    def test_at_the_room_nearest_without_the_start(self):
        market = small_market(2)
        told = market.lay(0, 7, "some")
        self.assertIs(type(told), list)
        self.assertEqual(told, [7, 5])
        self.assertEqual(things(market), {5: [(7, 0, "some")], 7: [(7, 0, "some")]})

    def test_the_start_among_them(self):
        # For each start the others found differ, those that keep it are the same.
        for start in [0, 4, 5, 7]:
            market = small_market(2)
            self.assertEqual(market.lay(start, 7, "some"), [7, 5])
            self.assertEqual(things(market), {5: [(7, 0, "some")], 7: [(7, 0, "some")]})

    def test_the_start_is_found_neither_twice_nor_ahead_of_nearer_ones(self):
        self.assertEqual(small_market(3).lay(4, 7, "some"), [7, 5, 4])
        self.assertEqual(small_market(3).lay(0, 1, "some"), [0, 5, 4])
        self.assertEqual(small_market(1).lay(0, 1, "some"), [0])
        self.assertEqual(small_market(1).lay(5, 1, "some"), [0])

    def test_all_where_they_are_fewer_than_room(self):
        market = small_market(8)
        self.assertEqual(market.lay(5, 6, "some"), [7, 4, 5, 0])
        self.assertEqual(sorted(things(market)), [0, 4, 5, 7])

    def test_alone(self):
        market = Market(3, 2)
        market.come(6)
        self.assertEqual(market.lay(6, 0, "some"), [6])
        self.assertEqual(market.lay(6, 6, "other"), [6])
        self.assertEqual(market.kept(6), [(0, 0, "some"), (6, 1, "other")])

    def test_not_at_silent_houses_nor_at_those_that_went(self):
        for deed in [Market.hush, Market.go]:
            market = small_market(2)
            deed(market, 7)
            self.assertEqual(market.lay(0, 7, "some"), [5, 4])
            self.assertEqual(sorted(things(market)), [4, 5])

    def test_those_that_are_not_found_keep_nothing(self):
        market = small_market(2)
        market.come(6)
        self.assertEqual(market.lay(0, 6, "some"), [7, 4])
        self.assertEqual(market.lay(6, 6, "other"), [6])
        self.assertEqual(things(market), {4: [(6, 0, "some")], 6: [(6, 1, "other")], 7: [(6, 0, "some")]})

    def test_a_thing_laid_again_by_a_key(self):
        market = small_market(2)
        market.lay(0, 7, "some")
        self.assertEqual(market.lay(4, 7, "other"), [7, 5])
        self.assertEqual(things(market), {5: [(7, 1, "other")], 7: [(7, 1, "other")]})

    def test_laid_again_at_others_the_elder_thing_stays_where_it_was(self):
        market = small_market(2)
        market.lay(0, 7, "some")
        market.come(6, 0)
        self.assertEqual(market.lay(0, 7, "other"), [7, 6])
        self.assertEqual(things(market), {5: [(7, 0, "some")], 6: [(7, 1, "other")], 7: [(7, 1, "other")]})

    def test_number_counts_all_layings(self):
        market = small_market(1)
        for number, key in enumerate([7, 7, 0, 3, 7]):
            market.lay(0, key, f"text{number}")
        self.assertEqual(things(market), {0: [(0, 2, "text2"), (3, 3, "text3")], 7: [(7, 4, "text4")]})

    def test_number_counts_those_whose_things_are_gone(self):
        market = small_market(1)
        market.lay(0, 7, "some")
        market.go(7)
        market.seek(0, 7)
        market.lay(0, 7, "other")
        self.assertEqual(things(market), {4: [(7, 1, "other")]})

    def test_any_text(self):
        market = small_market(1)
        for text in ["", " ", "None", "none", "-", "A b?", "a" * 2000]:
            self.assertEqual(market.lay(0, 7, text), [7])
            self.assertEqual(market.kept(7)[0][2], text)
            self.assertEqual(market.seek(4, 7), text)

    def test_the_houses_learn_as_by_an_ask(self):
        for deed in [lambda market: market.lay(0, 7, "some"), lambda market: market.seek(0, 7)]:
            for lost in [[], [5], [4, 7]]:
                market, town = small_market(2), filled(Town(3, 2), [0, 4, 5, 7])
                for house in lost:
                    market.hush(house)
                    town.hush(house)
                deed(market)
                town.ask(0, 7)
                self.assertEqual(whole(market), whole(town))

    def test_told_lists_are_the_askers_own(self):
        market = small_market(2)
        for start in [0, 7]:
            told = market.lay(start, 7, "some")
            ahead = whole_market(market)
            told.clear()
            told.append(0)
            self.assertEqual(whole_market(market), ahead)


class TestSeek(unittest.TestCase):
    def test_from_each_house(self):
        market = small_market(2)
        market.lay(0, 7, "some")
        market.lay(0, 1, "other")
        for start in [0, 4, 5, 7]:
            self.assertEqual(market.seek(start, 7), "some")
            self.assertEqual(market.seek(start, 1), "other")

    def test_none(self):
        market = small_market(2)
        self.assertIsNone(market.seek(0, 7))
        market.lay(0, 7, "some")
        for key in range(7):
            self.assertIsNone(market.seek(0, key))
            self.assertIsNone(market.seek(7, key))

    def test_the_last_one_laid(self):
        market = small_market(2)
        for text in ["some", "other", "again"]:
            market.lay(4, 7, text)
            for start in [0, 4, 5, 7]:
                self.assertEqual(market.seek(start, 7), text)

    def test_seeking_lays_nothing(self):
        market = small_market(2)
        market.lay(0, 7, "some")
        ahead = things(market)
        for start in [0, 4, 5, 7]:
            market.seek(start, 7)
        self.assertEqual(things(market), ahead)
        market.lay(0, 7, "other")
        self.assertEqual(market.kept(7), [(7, 1, "other")])

    def test_a_thing_of_a_silent_house_is_not_told(self):
        market = small_market(1)
        self.assertEqual(market.lay(0, 7, "some"), [7])
        market.hush(7)
        for start in [0, 4, 5]:
            self.assertIsNone(market.seek(start, 7))
        self.assertEqual(market.kept(7), [(7, 0, "some")])

    def test_the_newest_of_those_asked(self):
        # 7, the nearest, woke by a house that knows nobody, so it keeps the elder thing.
        market = small_market(2)
        market.lay(0, 7, "some")
        market.hush(7)
        self.assertEqual(market.lay(0, 7, "other"), [5, 4])
        market.come(1)
        market.wake(7, 1)
        self.assertEqual(things(market), {4: [(7, 1, "other")], 5: [(7, 1, "other")], 7: [(7, 0, "some")]})
        for start in [0, 4, 5, 7]:
            self.assertEqual(market.seek(start, 7), "other")
        market.hush(4)
        market.hush(5)
        self.assertEqual(market.seek(7, 7), "some")

    def test_the_start_keeps_the_newest(self):
        # As above; by looking round 4 lets 0 hear of it.
        market = filled(Market(3, 1), [0, 4])
        market.lay(0, 5, "some")
        market.hush(4)
        self.assertEqual(market.lay(0, 5, "other"), [0])
        market.come(1)
        market.wake(4, 1)
        rests.look_round(market, 4)
        self.assertEqual(things(market), {0: [(5, 1, "other")], 4: [(5, 0, "some")]})
        self.assertEqual(market.ask(0, 5), ([(0, [4]), (4, [])], [4]))
        self.assertEqual(market.seek(0, 5), "other")

    def test_those_that_are_not_asked_are_not_sought(self):
        market = filled(Market(3, 2), [0, 1])
        market.come(6)
        self.assertEqual(market.lay(0, 7, "some"), [1, 0])
        self.assertIsNone(market.seek(6, 7))
        self.assertEqual(market.lay(6, 7, "other"), [6])
        self.assertEqual([market.seek(house, 7) for house in [0, 1, 6]], ["some", "some", "other"])

    def test_an_asked_one_that_is_not_found_at_the_end(self):
        # 4 met 6 as it woke, so 6, nearer to the key, took nothing.
        market = filled(Market(3, 1), [0, 4])
        self.assertEqual(market.lay(0, 7, "some"), [4])
        market.come(6)
        market.hush(4)
        market.wake(4, 6)
        self.assertEqual(things(market), {4: [(7, 0, "some")]})
        self.assertEqual(market.ask(0, 7), ([(0, [4]), (4, [6]), (6, [4])], [6]))
        self.assertEqual(market.seek(0, 7), "some")


class TestKept(unittest.TestCase):
    def test_by_rising_keys(self):
        market = small_market(1)
        for key in [6, 5, 7, 4]:
            market.lay(0, key, "some")
        self.assertEqual(market.kept(7), [(6, 0, "some"), (7, 2, "some")])
        self.assertEqual(market.kept(5), [(5, 1, "some")])
        self.assertEqual(market.kept(0), [])
        market = Market(4, 1)
        market.come(0)
        for key in [9, 10, 2, 15, 0]:
            market.lay(0, key, "some")
        self.assertEqual([thing[0] for thing in market.kept(0)], [0, 2, 9, 10, 15])
        self.assertEqual({type(thing) for thing in market.kept(0)}, {tuple})

    def test_of_silent_ones(self):
        market = small_market(1)
        market.lay(0, 7, "some")
        market.hush(7)
        self.assertEqual(market.kept(7), [(7, 0, "some")])

    def test_the_list_is_the_askers_own(self):
        market = small_market(1)
        market.lay(0, 7, "some")
        told = market.kept(7)
        self.assertIs(type(told), list)
        told.clear()
        told.append((0, 9, "other"))
        self.assertEqual(market.kept(7), [(7, 0, "some")])
        self.assertEqual(market.kept(0), [])
        market.kept(0).append((0, 9, "other"))
        self.assertEqual(market.kept(0), [])


class TestComing(unittest.TestCase):
    def test_one_of_the_room_nearest_takes_the_thing(self):
        market = small_market(2)
        market.lay(0, 7, "some")
        self.assertEqual(market.come(6, 0), [0, 4, 5, 7])
        self.assertEqual(things(market), {house: [(7, 0, "some")] for house in [5, 6, 7]})

    def test_one_that_is_not_takes_nothing(self):
        market = small_market(2)
        market.lay(0, 7, "some")
        self.assertEqual(market.come(1, 0), [0, 4, 5, 7])
        self.assertEqual(sorted(things(market)), [5, 7])

    def test_the_edge_of_the_room_nearest(self):
        # Of those that are visited 7 and 5 are nearer to 7 than 4.
        for room, taken in [(1, False), (2, False), (3, True), (8, True)]:
            market = filled(Market(3, room), [0, 5, 7])
            market.lay(0, 7, "some")
            market.come(4, 0)
            self.assertEqual(4 in things(market), taken)

    def test_by_each_key(self):
        market = filled(Market(3, 1), [0, 4])
        for key in [5, 6, 7, 1, 4]:
            market.lay(0, key, f"text{key}")
        market.come(7, 0)
        self.assertEqual(market.kept(7), [(6, 1, "text6"), (7, 2, "text7")])

    def test_the_newest_of_those_visited(self):
        # 7 woke by a house that knows nobody, so the nearest to the key keeps the elder thing.
        market = small_market(2)
        market.lay(0, 7, "some")
        market.hush(7)
        self.assertEqual(market.lay(0, 7, "other"), [5, 4])
        market.come(2)
        self.assertEqual(market.wake(7, 2), [2])
        self.assertEqual(market.kept(7), [(7, 0, "some")])
        self.assertEqual(market.come(6, 7), [0, 2, 4, 5, 7])
        self.assertEqual(market.kept(6), [(7, 1, "other")])
        self.assertEqual(market.kept(7), [(7, 0, "some")])

    def test_the_newest_though_the_elder_ones_are_many(self):
        market = filled(Market(3, 3), [4, 5, 7])
        market.lay(4, 6, "some")
        market.hush(5)
        market.hush(7)
        market.lay(4, 6, "other")
        market.come(0)
        market.wake(5, 0)
        market.wake(7, 0)
        market.come(6, 4)
        self.assertEqual(market.kept(6), [(6, 1, "other")])

    def test_alone(self):
        market = small_market(2)
        market.lay(0, 7, "some")
        self.assertEqual(market.come(6), [])
        self.assertEqual(market.kept(6), [])

    def test_by_those_visited_alone(self):
        # 6 is nearest of its own circle, and the other circle's things are unknown to it.
        market = filled(Market(3, 1), [0, 1])
        market.lay(0, 7, "some")
        market.come(4)
        self.assertEqual(market.come(6, 4), [4])
        self.assertEqual(things(market), {1: [(7, 0, "some")]})
        market.lay(4, 3, "other")
        # Of 4, 6 and 5 the last is nearest to 1; that 1 itself is a house of the town does not count.
        market.lay(4, 1, "third")
        market.come(5, 6)
        self.assertEqual(market.kept(5), [(1, 2, "third")])

    def test_things_of_silent_houses_are_not_taken(self):
        market = small_market(1)
        market.lay(0, 7, "some")
        market.hush(7)
        market.come(6, 0)
        self.assertEqual(market.kept(6), [])

    def test_nobody_forgets_by_a_coming(self):
        market = filled(Market(3, 1), [0])
        market.lay(0, 7, "some")
        for name in [4, 6, 7]:
            market.come(name, 0)
        self.assertEqual(things(market), {house: [(7, 0, "some")] for house in [0, 4, 6, 7]})

    def test_a_coming_is_no_laying(self):
        market = filled(Market(3, 1), [0])
        market.lay(0, 7, "some")
        market.come(4, 0)
        market.hush(4)
        market.wake(4, 0)
        market.lay(0, 7, "other")
        self.assertEqual(market.kept(4), [(7, 1, "other")])


class TestWaking(unittest.TestCase):
    def test_it_takes_the_newest_in_the_place_of_an_elder_thing_of_its_own(self):
        market = small_market(2)
        market.lay(0, 7, "some")
        market.hush(7)
        market.lay(0, 7, "other")
        self.assertEqual(market.kept(7), [(7, 0, "some")])
        self.assertEqual(market.wake(7, 0), [0, 4, 5])
        self.assertEqual(market.kept(7), [(7, 1, "other")])

    def test_it_takes_things_where_it_kept_none(self):
        market = small_market(2)
        market.hush(7)
        market.lay(0, 7, "some")
        market.wake(7, 0)
        self.assertEqual(things(market), {house: [(7, 0, "some")] for house in [4, 5, 7]})

    def test_one_that_is_not_of_the_room_nearest_keeps_what_it_kept(self):
        market = small_market(2)
        market.lay(0, 7, "some")
        market.hush(5)
        market.come(6, 0)
        self.assertEqual(market.lay(0, 7, "other"), [7, 6])
        market.wake(5, 0)
        self.assertEqual(market.kept(5), [(7, 0, "some")])
        market.hush(0)
        market.lay(4, 7, "third")
        market.wake(0, 4)
        self.assertEqual(market.kept(0), [])

    def test_its_own_thing_where_that_is_the_newest(self):
        # All others were silent as 7 laid the newest thing; 5 keeps the elder one, and woke first.
        market = small_market(2)
        market.lay(0, 7, "some")
        for house in [0, 4, 5]:
            market.hush(house)
        self.assertEqual(market.lay(7, 7, "other"), [7])
        market.hush(7)
        market.come(1)
        market.wake(5, 1)
        self.assertEqual(market.wake(7, 5), [1, 5])
        self.assertEqual(things(market), {5: [(7, 0, "some")], 7: [(7, 1, "other")]})

    def test_its_own_thing_that_nobody_else_keeps(self):
        market = small_market(1)
        market.lay(0, 7, "some")
        market.hush(7)
        market.wake(7, 0)
        self.assertEqual(things(market), {7: [(7, 0, "some")]})
        market.come(6, 0)
        market.hush(7)
        market.hush(6)
        market.wake(6, 0)
        self.assertEqual(things(market), {7: [(7, 0, "some")]})

    def test_falling_silent_changes_no_thing(self):
        market = small_market(2)
        market.lay(0, 7, "some")
        ahead = things(market)
        self.assertIsNone(market.hush(7))
        self.assertIsNone(market.hush(7))
        self.assertEqual(things(market), ahead)


class TestGoing(unittest.TestCase):
    def test_it_takes_its_things_along(self):
        market = small_market(1)
        market.lay(0, 7, "some")
        market.lay(0, 6, "other")
        market.lay(0, 4, "third")
        self.assertIsNone(market.go(7))
        self.assertEqual(things(market), {4: [(4, 2, "third")]})
        for start in [0, 4, 5]:
            self.assertIsNone(market.seek(start, 7))

    def test_it_comes_anew_with_nothing(self):
        for hushed in [False, True]:
            market = small_market(1)
            market.lay(0, 7, "some")
            if hushed:
                market.hush(7)
            market.go(7)
            market.come(7)
            self.assertEqual(market.kept(7), [])
            market.go(7)
            market.come(7, 0)
            self.assertEqual(market.kept(7), [])
            self.assertIsNone(market.seek(7, 7))

    def test_it_comes_anew_and_takes_what_others_keep(self):
        market = small_market(2)
        market.lay(0, 7, "some")
        market.go(7)
        self.assertEqual(things(market), {5: [(7, 0, "some")]})
        market.come(7, 0)
        self.assertEqual(things(market), {5: [(7, 0, "some")], 7: [(7, 0, "some")]})

    def test_the_others_keep_theirs(self):
        market = small_market(2)
        market.lay(0, 7, "some")
        market.go(0)
        market.go(7)
        self.assertEqual(things(market), {5: [(7, 0, "some")]})
        self.assertEqual(market.seek(4, 7), "some")


class TestTide(unittest.TestCase):
    def test_without_houses_and_without_things(self):
        market = Market(3, 2)
        self.assertIsNone(market.tide())
        self.assertEqual(whole_market(market), whole_market(Market(3, 2)))
        market = small_market(2)
        self.assertIsNone(market.tide())
        self.assertEqual(things(market), {})

    def test_all_look_round(self):
        market, town = small_market(2), filled(Town(3, 2), [0, 4, 5, 7])
        for one in [market, town]:
            one.hush(5)
            one.go(4)
        market.tide()
        rests.tide(town)
        self.assertEqual(whole(market), whole(town))
        self.assertIsNone(rests.fault(market))

    def test_just_the_room_nearest_keep_it_then(self):
        market = small_market(2)
        market.lay(0, 7, "some")
        market.come(6, 0)
        self.assertEqual(sorted(things(market)), [5, 6, 7])
        self.assertIsNone(market.tide())
        self.assertEqual(things(market), {6: [(7, 0, "some")], 7: [(7, 0, "some")]})

    def test_those_that_lacked_it_keep_it_then(self):
        market = small_market(2)
        market.lay(0, 7, "some")
        market.go(7)
        market.tide()
        self.assertEqual(things(market), {4: [(7, 0, "some")], 5: [(7, 0, "some")]})

    def test_the_newest_alone(self):
        market = small_market(2)
        market.lay(0, 7, "some")
        market.come(6, 0)
        market.lay(0, 7, "other")
        self.assertEqual(market.kept(5), [(7, 0, "some")])
        market.go(7)
        market.tide()
        self.assertEqual(things(market), {5: [(7, 1, "other")], 6: [(7, 1, "other")]})

    def test_a_tide_is_no_laying(self):
        market = small_market(1)
        market.lay(0, 7, "some")
        market.lay(0, 0, "other")
        market.tide()
        market.tide()
        market.lay(0, 3, "third")
        self.assertEqual(things(market), {0: [(0, 1, "other"), (3, 2, "third")], 7: [(7, 0, "some")]})

    def test_silent_houses_keep_what_they_keep(self):
        market = small_market(2)
        market.lay(0, 7, "some")
        market.hush(5)
        market.tide()
        self.assertEqual(things(market), {house: [(7, 0, "some")] for house in [4, 5, 7]})
        market.lay(0, 7, "other")
        market.tide()
        self.assertEqual(market.kept(5), [(7, 0, "some")])

    def test_a_key_of_silent_houses_alone(self):
        market = small_market(1)
        market.lay(0, 7, "some")
        market.hush(7)
        market.tide()
        self.assertEqual(things(market), {7: [(7, 0, "some")]})

    def test_each_key(self):
        market = small_market(1)
        for key in [7, 2, 5]:
            market.lay(0, key, f"text{key}")
        market.come(3, 0)
        market.come(6, 0)
        self.assertEqual(sorted(things(market)), [0, 3, 5, 7])
        market.go(7)
        market.tide()
        self.assertEqual(things(market), {3: [(2, 1, "text2")], 5: [(5, 2, "text5")]})

    def test_houses_that_do_not_find_one_another(self):
        # Two circles: the newest thing stays with its own one, and the other one forgets its elder thing.
        market = filled(Market(3, 2), [0, 1])
        market.come(4)
        market.come(5, 4)
        self.assertEqual(market.lay(4, 1, "some"), [5, 4])
        self.assertEqual(market.lay(0, 1, "other"), [1, 0])
        self.assertEqual(market.lay(0, 5, "third"), [1, 0])
        self.assertEqual(market.lay(4, 5, "fourth"), [5, 4])
        market.tide()
        self.assertEqual(things(market), {0: [(1, 1, "other")], 1: [(1, 1, "other")],
                                          4: [(5, 3, "fourth")], 5: [(5, 3, "fourth")]})

    def test_laid_from_the_least_house_that_keeps_the_newest(self):
        # 1 brought the thing with it into the other circle and went again: 0 and 4 keep it, unknown to one another.
        market = filled(Market(3, 2), [0])
        market.lay(0, 7, "some")
        market.come(1, 0)
        market.come(4)
        market.hush(1)
        market.hush(0)
        market.wake(1, 4)
        market.hush(4)
        market.wake(4, 1)
        market.go(1)
        self.assertEqual(things(market), {0: [(7, 0, "some")], 4: [(7, 0, "some")]})
        market.come(6)
        market.wake(0, 6)
        self.assertEqual([market.come_to(0), market.come_to(4)], [[0, 6], [4]])
        self.assertEqual(sorted(things(market)), [0, 4])
        market.tide()
        self.assertEqual(things(market), {0: [(7, 0, "some")], 6: [(7, 0, "some")]})

    def test_a_tide_behind_a_tide_moves_nothing(self):
        market = small_market(2)
        for key in range(8):
            market.lay(0, key, "some")
        market.go(5)
        market.tide()
        ahead = things(market)
        market.tide()
        self.assertEqual(things(market), ahead)


class TestAsTheLawSays(unittest.TestCase):
    def both(self, word, *given):
        """One deed to the market and to the model: both tell the same, and look alike behind it."""
        self.assertEqual(getattr(self.market, word)(*given), getattr(self.model, word)(*given), (word, given))
        self.assertEqual(whole_market(self.market), self.model.whole(), (word, given))

    def one_deed(self, draw, keys):
        houses, answering = self.market.houses(), self.market.answering()
        silent = [house for house in houses if house not in answering]
        name, key = draw.getrandbits(self.market.wide), draw.choice(keys)
        word = draw.choice("come come come come lay lay lay seek seek ask go hush hush wake wake tide look".split())
        if word == "come" and name not in houses:
            self.both("come", name, draw.choice((answering or [None]) + [None] * (draw.randrange(4) == 0)))
        if word in ["go", "hush"] and houses:
            self.both(word, draw.choice(houses))
        if word == "wake" and silent and answering:
            self.both("wake", draw.choice(silent), draw.choice(answering))
        if word in ["ask", "seek"] and answering:
            self.both(word, draw.choice(answering), key)
        if word == "lay" and answering:
            self.both("lay", draw.choice(answering), key, draw.choice(["some", "other", "third"]))
        if word == "tide" and draw.randrange(3) == 0:
            self.both("tide")
        if word == "look" and draw.randrange(3) == 0:
            rests.tide(self.market)
            Model.tide(self.model)
            self.assertEqual(whole_market(self.market), self.model.whole())

    def test_drawn_deeds(self):
        for seed in range(250):
            draw = random.Random(seed)
            wide, room = draw.choice([1, 2, 3, 4, 4, 5, 5, 6, 60]), draw.randint(1, 8)
            self.market, self.model = Market(wide, room), MarketModel(wide, room)
            keys = [draw.getrandbits(wide) for turn in range(3)]
            for turn in range(100):
                self.one_deed(draw, keys)

    def test_the_same_deeds_make_the_same_market(self):
        told = []
        for turn in range(2):
            market = filled(Market(5, 2), list(range(0, 32, 3)))
            keepers = [market.lay(0, key, "some") for key in range(32)]
            market.tide()
            told.append((keepers, whole_market(market)))
        self.assertEqual(told[0], told[1])


if __name__ == "__main__":
    unittest.main()
