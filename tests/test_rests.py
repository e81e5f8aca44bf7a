import random
import unittest

from helpers import ANSWERING, FREE, SILENT, Model, filled, kept_by, no_names, of_all_sorts, whole, whole_market
from nearnames.errors import NearError, NoHouse, Silent
from nearnames.markets import Market
from nearnames.rests import fault, holes, look_round, tide
from nearnames.towns import Town


def small_town(room):
    return filled(Town(3, room), [0, 4, 5, 7])


def two_circles():
    """Houses 0 and 1, houses 4 and 5; of the first two 1 alone knows of the others."""
    town = filled(Town(3, 2), [0, 1])
    town.come(4)
    town.come(5, 4)
    town.hush(1)
    town.wake(1, 4)
    return town


class TestFault(unittest.TestCase):
    def test_without_houses(self):
        self.assertIsNone(fault(Town(3, 2)))
        self.assertIsNone(fault(Town(60, 8)))

    def test_of_one_house(self):
        town = Town(3, 2)
        town.come(6)
        self.assertIsNone(fault(town))
        town.hush(6)
        self.assertIsNone(fault(town))

    def test_at_rest(self):
        for room in range(1, 9):
            self.assertIsNone(fault(small_town(room)))
            self.assertIsNone(fault(filled(Town(4, room), list(range(16)))))

    def test_a_full_bucket_needs_no_further_house_of_its_span(self):
        town = small_town(2)
        self.assertEqual(town.bucket(0, 2), [5, 4])
        self.assertIsNone(fault(town))

    def test_a_name_that_does_not_answer(self):
        for deed in [Town.hush, Town.go]:
            town = small_town(2)
            deed(town, 5)
            told = fault(town)
            self.assertEqual(told, (0, 2))
            self.assertIs(type(told), tuple)

    def test_one_such_name_is_enough_in_each_place_of_a_bucket(self):
        for house in [4, 5, 7]:
            town = small_town(3)
            town.hush(house)
            self.assertEqual(town.bucket(0, 2), [4, 5, 7])
            self.assertEqual(fault(town), (0, 2))

    def test_such_a_name_though_all_answering_houses_of_the_span_are_kept(self):
        town = filled(Town(3, 8), [0, 4, 5])
        town.go(5)
        self.assertEqual(fault(town), (0, 2))
        town = filled(Town(3, 8), [0, 4])
        town.go(4)
        self.assertEqual(fault(town), (0, 2))

    def test_fewer_than_room_though_a_further_house_answers(self):
        # 6 came alone, so 0, whose bucket has room for it, doesn't keep it.
        town = filled(Town(3, 3), [0, 4])
        town.come(6)
        self.assertEqual([town.bucket(0, 2), town.bucket(4, 1)], [[4], []])
        self.assertEqual(fault(town), (0, 2))
        town.hush(6)
        self.assertIsNone(fault(town))

    def test_no_name_at_all_though_a_house_answers(self):
        town = Town(3, 1)
        town.come(6)
        town.come(7)
        self.assertEqual(fault(town), (6, 0))
        town.come(5)
        self.assertEqual(fault(town), (5, 1))

    def test_the_least_house(self):
        # 0 and 1 know all; 4 alone keeps a name that is gone, and 5 too, which is greater.
        town = filled(Town(3, 8), [0, 1, 4, 5, 6])
        town.go(6)
        self.assertEqual(fault(town), (0, 2))
        look_round(town, 0)
        self.assertEqual(fault(town), (1, 2))
        look_round(town, 1)
        self.assertEqual(fault(town), (4, 1))
        look_round(town, 4)
        self.assertEqual(fault(town), (5, 1))
        look_round(town, 5)
        self.assertIsNone(fault(town))

    def test_the_least_step_of_the_least_house(self):
        town = filled(Town(4, 8), [0, 1, 2, 4, 8, 9])
        for lost, steps in [(8, 3), (4, 2), (2, 1), (1, 0)]:
            town.go(lost)
            self.assertEqual(fault(town), (0, steps))

    def test_a_lesser_house_with_a_greater_step_comes_first(self):
        # 4 lacks 5 at step 0, 0 lacks 4 and 5 at step 2.
        town = Town(3, 2)
        for name in [5, 4, 0]:
            town.come(name)
        self.assertEqual(fault(town), (0, 2))
        town.go(0)
        self.assertEqual(fault(town), (4, 0))

    def test_tables_of_silent_houses_are_not_looked_at(self):
        # 4 and 5 keep one another and 7, all silent or gone by now.
        town = small_town(2)
        town.hush(4)
        town.hush(5)
        town.go(7)
        self.assertEqual(fault(town), (0, 2))
        look_round(town, 0)
        self.assertEqual([town.keeps(0), town.keeps(4)], [[], [0, 5, 7]])
        self.assertIsNone(fault(town))

    def test_silent_houses_of_a_span_are_not_due(self):
        town = filled(Town(3, 2), [0, 1])
        town.come(6)
        town.hush(6)
        self.assertIsNone(fault(town))

    def test_all_silent(self):
        town = small_town(2)
        for house in town.houses():
            town.hush(house)
        self.assertIsNone(fault(town))

    def test_at_the_ends_of_long_names(self):
        town = filled(Town(60, 1), [0, 2 ** 60 - 1])
        self.assertIsNone(fault(town))
        town.come(1)
        self.assertEqual(fault(town), (0, 0))
        town.go(1)
        town.go(0)
        self.assertEqual(fault(town), (2 ** 60 - 1, 59))

    def test_nothing_changes(self):
        for town in [small_town(2), of_all_sorts(Town(3, 2)), two_circles()]:
            ahead = whole(town)
            self.assertEqual(fault(town), fault(town))
            self.assertEqual(whole(town), ahead)


class TestHoles(unittest.TestCase):
    def test_none(self):
        self.assertEqual(holes(Town(3, 2)), [])
        for room in range(1, 9):
            self.assertEqual(holes(small_town(room)), [])

    def test_only_silent_names_and_an_answering_house_of_the_span(self):
        for deed in [Town.hush, Town.go]:
            town = small_town(1)
            deed(town, 4)
            told = holes(town)
            self.assertEqual(told, [(0, 2), (7, 1)])
            self.assertEqual([type(told)] + [type(hole) for hole in told], [list, tuple, tuple])

    def test_several_silent_names_and_an_answering_house_of_the_span(self):
        town = small_town(2)
        self.assertEqual(town.bucket(0, 2), [5, 4])
        town.hush(4)
        self.assertEqual(holes(town), [])
        town.hush(5)
        self.assertEqual(holes(town), [(0, 2)])

    def test_an_empty_bucket_and_an_answering_house_of_the_span(self):
        town = Town(3, 2)
        for name in [7, 6, 2]:
            town.come(name)
        self.assertEqual(holes(town), [(2, 2), (6, 0), (6, 2), (7, 0), (7, 2)])

    def test_an_empty_bucket_whose_span_has_silent_houses_alone_or_none(self):
        town = Town(3, 2)
        for name in [7, 6, 2]:
            town.come(name)
        town.hush(7)
        self.assertEqual(holes(town), [(2, 2), (6, 2)])
        town.hush(2)
        self.assertEqual(holes(town), [])
        self.assertEqual(town.keeps(6), [])

    def test_a_bucket_of_silent_names_whose_span_has_no_answering_house(self):
        town = filled(Town(3, 2), [0, 4, 5])
        town.hush(4)
        town.hush(5)
        self.assertEqual(town.bucket(0, 2), [4, 5])
        self.assertEqual(holes(town), [])

    def test_faults_that_are_no_holes(self):
        town = small_town(2)
        town.hush(5)
        self.assertEqual((fault(town), holes(town)), ((0, 2), []))
        town = filled(Town(3, 2), [0, 4])
        town.come(6)
        self.assertEqual((fault(town), holes(town)), ((0, 2), [(4, 1), (6, 1), (6, 2)]))
        self.assertEqual(town.bucket(0, 2), [4])

    def test_silent_houses_have_none(self):
        town = Town(3, 2)
        for name in [0, 4, 5]:
            town.come(name)
        town.hush(0)
        self.assertEqual(holes(town), [(4, 0), (5, 0)])

    def test_the_list_is_the_askers_own(self):
        town = small_town(1)
        town.hush(4)
        ahead = whole(town)
        holes(town).clear()
        self.assertEqual(holes(town), [(0, 2), (7, 1)])
        self.assertEqual(whole(town), ahead)


class TestLookRound(unittest.TestCase):
    def test_alone(self):
        town = Town(3, 2)
        town.come(6)
        self.assertEqual(look_round(town, 6), [])
        self.assertEqual(kept_by(town, 6), {})

    def test_others_that_are_come_to_rising(self):
        for house, others in [(0, [4, 5, 7]), (4, [0, 5, 7]), (5, [0, 4, 7]), (7, [0, 4, 5])]:
            town = small_town(2)
            told = look_round(town, house)
            self.assertEqual(told, others)
            self.assertIs(type(told), list)

    def test_it_hears_by_rising_names(self):
        # Ahead [7, 5, 4] in the order of their coming; each goes to the end when it is heard of.
        town = filled(Town(3, 3), [0, 7, 5, 4])
        self.assertEqual(town.bucket(0, 2), [7, 5, 4])
        look_round(town, 0)
        self.assertEqual(town.bucket(0, 2), [4, 5, 7])

    def test_a_full_bucket_turns_by_those_that_are_left_out(self):
        town = small_town(2)
        self.assertEqual(town.bucket(0, 2), [5, 4])
        look_round(town, 0)
        self.assertEqual(kept_by(town, 0), {2: [5, 4]})
        town = small_town(1)
        look_round(town, 0)
        self.assertEqual(kept_by(town, 0), {2: [4]})

    def test_it_drops_names_that_do_not_answer_from_each_bucket(self):
        for deed in [Town.hush, Town.go]:
            town = filled(Town(3, 4), [0, 1, 2, 3, 4, 5])
            for lost in [1, 3, 4]:
                deed(town, lost)
            self.assertEqual(kept_by(town, 0), {0: [1], 1: [2, 3], 2: [4, 5]})
            self.assertEqual(look_round(town, 0), [2, 5])
            self.assertEqual(kept_by(town, 0), {1: [2], 2: [5]})

    def test_it_drops_ahead_of_hearing(self):
        # 5, the second, is silent: were it still there, 4, the first, would answer and 7 be left out.
        town = small_town(2)
        town.ask(0, 4)
        self.assertEqual(town.bucket(0, 2), [4, 5])
        town.hush(5)
        self.assertEqual(look_round(town, 0), [4, 7])
        self.assertEqual(town.bucket(0, 2), [4, 7])

    def test_it_drops_names_where_nobody_is_come_to(self):
        town = filled(Town(3, 2), [0, 4])
        town.go(4)
        self.assertEqual(look_round(town, 0), [])
        self.assertEqual(kept_by(town, 0), {})

    def test_the_others_drop_nothing(self):
        town = small_town(3)
        town.go(5)
        look_round(town, 0)
        self.assertEqual([town.keeps(house) for house in [0, 4, 7]], [[4, 7], [0, 5, 7], [0, 4, 5]])

    def test_the_others_hear_of_it(self):
        town = two_circles()
        self.assertEqual([town.keeps(0), town.keeps(4), town.keeps(5)], [[1], [1, 5], [1, 4]])
        self.assertEqual(look_round(town, 0), [1, 4, 5])
        self.assertEqual(kept_by(town, 0), {0: [1], 2: [4, 5]})
        self.assertEqual(kept_by(town, 1), {0: [0], 2: [4, 5]})
        self.assertEqual(kept_by(town, 4), {0: [5], 2: [1, 0]})
        self.assertEqual(kept_by(town, 5), {0: [4], 2: [1, 0]})

    def test_the_others_full_buckets(self):
        # 4's bucket is full: its first name, 0, answers and goes to the end, or is silent and left out.
        for silent, bucket in [(False, [1, 0]), (True, [1, 2])]:
            town = filled(Town(3, 2), [4, 0, 1, 2])
            town.ask(4, 0)
            self.assertEqual(town.bucket(4, 2), [0, 1])
            if silent:
                town.hush(0)
            look_round(town, 2)
            self.assertEqual(town.bucket(4, 2), bucket)

    def test_silent_houses_hear_of_nobody(self):
        town = small_town(2)
        town.come(1)
        town.hush(1)
        town.hush(5)
        look_round(town, 0)
        self.assertEqual(town.keeps(1), [])
        self.assertEqual(kept_by(town, 5), {0: [4], 1: [7], 2: [0]})

    def test_those_that_are_not_come_to_stay_unknown(self):
        town = small_town(2)
        town.come(6)
        self.assertEqual(look_round(town, 0), [4, 5, 7])
        self.assertEqual(look_round(town, 6), [])
        self.assertEqual(town.keeps(6), [])

    def test_by_way_of_itself_alone(self):
        # From 5 others are come to, but 5 isn't come to from them.
        town = Town(3, 1)
        filled(town, [0, 4, 5])
        town.go(4)
        self.assertEqual([town.come_to(0), town.come_to(5)], [[0], [0, 5]])
        self.assertEqual(look_round(town, 0), [])
        self.assertEqual(look_round(town, 5), [0])
        self.assertEqual(kept_by(town, 0), {2: [5]})

    def test_the_list_is_the_askers_own(self):
        town = small_town(2)
        told = look_round(town, 0)
        ahead = whole(town)
        told.clear()
        self.assertEqual(whole(town), ahead)
        self.assertEqual(look_round(town, 0), [4, 5, 7])

    def check_refused(self, town, house, wanted):
        ahead = whole(town)
        with self.assertRaises(NearError) as caught:
            look_round(town, house)
        self.assertIs(type(caught.exception), wanted)
        self.assertEqual(whole(town), ahead)

    def test_refusals(self):
        for town in [of_all_sorts(Town(3, 2)), of_all_sorts(Market(3, 2))]:
            for house in no_names() + FREE:
                self.check_refused(town, house, NoHouse)
            for house in SILENT:
                self.check_refused(town, house, Silent)
            for house in ANSWERING:
                self.assertEqual(look_round(town, house), [name for name in ANSWERING if name != house])

    def test_refusals_in_a_town_without_houses(self):
        for house in list(range(8)) + no_names():
            self.check_refused(Town(3, 2), house, NoHouse)


class TestTide(unittest.TestCase):
    def test_without_houses_and_of_one(self):
        town = Town(3, 2)
        self.assertIsNone(tide(town))
        self.assertEqual(whole(town), whole(Town(3, 2)))
        town.come(6)
        self.assertIsNone(tide(town))
        self.assertEqual(kept_by(town, 6), {})

    def test_each_house_drops_what_is_lost(self):
        town = small_town(2)
        town.hush(5)
        self.assertIsNone(tide(town))
        self.assertEqual(kept_by(town, 0), {2: [4, 7]})
        self.assertEqual(kept_by(town, 4), {1: [7], 2: [0]})
        self.assertEqual(kept_by(town, 7), {1: [4], 2: [0]})
        self.assertEqual(kept_by(town, 5), {0: [4], 1: [7], 2: [0]})
        self.assertIsNone(fault(town))

    def test_by_rising_names(self):
        # 4 came anew, alone: 0 and 1 keep it and it keeps nobody, so it keeps whoever looks round first.
        town = filled(Town(3, 1), [4, 1, 0])
        town.go(4)
        town.come(4)
        self.assertEqual([town.bucket(house, 2) for house in [0, 1, 4]], [[4], [4], []])
        tide(town)
        self.assertEqual([town.bucket(house, 2) for house in [0, 1, 4]], [[4], [4], [0]])

    def test_circles_that_do_not_know_one_another_stay_so(self):
        town = filled(Town(3, 2), [0, 1])
        town.come(4)
        town.come(5, 4)
        tide(town)
        self.assertEqual([town.come_to(0), town.come_to(5)], [[0, 1], [4, 5]])
        self.assertEqual(fault(town), (0, 2))

    def test_rest_behind_a_tide_where_each_is_come_to_from_each(self):
        town = two_circles()
        self.assertEqual(fault(town), (0, 2))
        tide(town)
        self.assertIsNone(fault(town))

    def test_a_tide_at_rest_keeps_the_names(self):
        for room in range(1, 9):
            town = filled(Town(4, room), [9, 3, 0, 15, 4, 5, 6, 11, 12])
            ahead = [town.keeps(house) for house in town.houses()]
            tide(town)
            self.assertEqual([town.keeps(house) for house in town.houses()], ahead)

    def test_of_a_market_looking_round_alone(self):
        # Two houses keep a thing by the key 5, though room is 1: neither forgets it.
        market = filled(Market(3, 1), [0])
        market.lay(0, 5, "some")
        market.come(4, 0)
        market.come(5, 0)
        market.come(6)
        market.hush(6)
        market.wake(6, 0)
        market.go(4)
        self.assertEqual(fault(market), (0, 2))
        things = {0: [(5, 0, "some")], 5: [(5, 0, "some")], 6: []}
        self.assertEqual(whole_market(market)[5], things)
        self.assertIsNone(tide(market))
        self.assertEqual(whole_market(market)[5], things)
        self.assertIsNone(fault(market))


class TestAsTheLawSays(unittest.TestCase):
    def some_deeds(self, draw, both, wide):
        """Deeds to the town and to the model alike, so that silent, gone and unknown houses lie about."""
        town = both[0]
        for turn in range(draw.randint(1, 30)):
            houses, answering = town.houses(), town.answering()
            word = draw.choice("come come come go hush wake".split())
            name = draw.choice(houses) if houses and word != "come" else draw.getrandbits(wide)
            door = draw.choice((answering or [None]) + [None] * (draw.randrange(4) == 0))
            if word == "come" and name not in houses:
                given = [name, door]
            elif word == "wake" and name in houses and name not in answering and door is not None:
                given = [name, door]
            elif word in ["go", "hush"] and name in houses:
                given = [name]
            else:
                continue
            for one in both:
                getattr(one, word)(*given)

    def test_drawn_towns(self):
        for seed in range(300):
            draw = random.Random(seed)
            wide, room = draw.choice([1, 2, 3, 4, 4, 5, 6, 60]), draw.randint(1, 8)
            town, model = Town(wide, room), Model(wide, room)
            for turn in range(3):
                self.some_deeds(draw, [town, model], wide)
                self.assertEqual(fault(town), model.fault())
                self.assertEqual(holes(town), model.holes())
                self.assertEqual(whole(town), model.whole())
                if town.answering():
                    house = draw.choice(town.answering())
                    self.assertEqual(look_round(town, house), model.look_round(house))
                    self.assertEqual(whole(town), model.whole())
                if draw.randrange(2):
                    self.assertIsNone(tide(town))
                    model.tide()
                    self.assertEqual(whole(town), model.whole())


if __name__ == "__main__":
    unittest.main()
