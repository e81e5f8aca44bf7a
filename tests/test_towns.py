import unittest

from helpers import kept_by, no_numbers, whole
from nearnames.errors import NoSize
from nearnames.towns import Town


def small_town(room):
    """Houses 0, 4, 5 and 7 of three signs, each come by the door 0."""
    town = Town(3, room)
    town.come(0)
    for name in [4, 5, 7]:
        town.come(name, 0)
    return town


def two_circles():
    """Houses 0 and 1, houses 4 and 5; of the first two 1 alone knows of the others."""
    town = Town(3, 2)
    town.come(0)
    town.come(1, 0)
    town.come(4)
    town.come(5, 4)
    town.hush(1)
    town.wake(1, 4)
    return town


class TestSizes(unittest.TestCase):
    def test_values(self):
        for wide in range(1, 61):
            for room in range(1, 9):
                town = Town(wide, room)
                self.assertEqual((town.wide, town.room), (wide, room))

    def check_refused(self, wide, room):
        with self.assertRaises(NoSize):
            Town(wide, room)

    def test_what_is_no_wide(self):
        for wide in no_numbers() + [None, 0, 61, -1, -60, 2 ** 60, 10 ** 59, -(10 ** 59)]:
            for room in [1, 8]:
                self.check_refused(wide, room)

    def test_what_is_no_room(self):
        for room in no_numbers() + [None, 0, 9, -1, -8, 60, 2 ** 60, 10 ** 59, -(10 ** 59)]:
            for wide in [1, 60]:
                self.check_refused(wide, room)

    def test_both_wrong(self):
        for thing in no_numbers() + [None, 0, -1, 61]:
            self.check_refused(thing, thing)
        self.check_refused(0, 9)
        self.check_refused(61, 0)

    def test_at_first_no_houses(self):
        town = Town(4, 2)
        self.assertEqual(town.houses(), [])
        self.assertEqual(town.answering(), [])
        self.assertEqual([town.answers(name) for name in range(16)], [False] * 16)

    def test_two_towns_share_nothing(self):
        one, other = Town(3, 2), Town(3, 2)
        one.come(3)
        one.come(4, 3)
        one.hush(4)
        self.assertEqual(whole(other), whole(Town(3, 2)))
        other.come(3)
        other.come(4)
        self.assertEqual(other.answering(), [3, 4])
        self.assertEqual([other.keeps(3), other.keeps(4)], [[], []])
        other.go(3)
        self.assertEqual(one.houses(), [3, 4])


class TestHouses(unittest.TestCase):
    def test_rising(self):
        town = Town(3, 2)
        for name in [5, 0, 7, 2]:
            town.come(name)
        self.assertEqual(town.houses(), [0, 2, 5, 7])
        self.assertEqual(town.answering(), [0, 2, 5, 7])
        town.hush(5)
        town.hush(0)
        self.assertEqual(town.houses(), [0, 2, 5, 7])
        self.assertEqual(town.answering(), [2, 7])

    def test_answers(self):
        town = small_town(2)
        town.hush(4)
        town.go(5)
        told = [town.answers(name) for name in range(8)]
        self.assertEqual(told, [True, False, False, False, False, False, False, True])
        self.assertEqual({type(truth) for truth in told}, {bool})

    def test_what_is_no_name_does_not_answer(self):
        town = Town(3, 2)
        town.come(0)
        town.come(1)
        for thing in no_numbers() + [None, -1, 8, 2 ** 60]:
            self.assertIs(town.answers(thing), False)

    def test_buckets_and_keeps(self):
        town = small_town(2)
        self.assertEqual(kept_by(town, 0), {2: [5, 4]})
        self.assertEqual(kept_by(town, 4), {0: [5], 1: [7], 2: [0]})
        self.assertEqual(kept_by(town, 5), {0: [4], 1: [7], 2: [0]})
        self.assertEqual(kept_by(town, 7), {1: [4, 5], 2: [0]})
        self.assertEqual([town.keeps(house) for house in town.houses()], [[4, 5], [0, 5, 7], [0, 4, 7], [0, 4, 5]])

    def test_of_silent_ones_too(self):
        town = small_town(2)
        town.hush(7)
        self.assertEqual(town.bucket(7, 1), [4, 5])
        self.assertEqual(town.keeps(7), [0, 4, 5])

    def test_changed_lists_change_nothing(self):
        town = small_town(2)
        ahead = whole(town)
        deeds = [town.houses, town.answering, lambda: town.bucket(0, 2), lambda: town.keeps(0), lambda: town.come_to(0),
                 lambda: town.tells(0, 7, 4), lambda: town.way(0, 7)]
        for deed in deeds:
            told = deed()
            self.assertIs(type(told), list)
            wanted = list(told)
            told.append(6)
            told[0] = 3
            self.assertEqual(deed(), wanted)
        self.assertEqual(whole(town), ahead)

    def test_told_lists_stay_as_they_were_told(self):
        town = small_town(2)
        deeds = [town.houses, town.answering, lambda: town.bucket(0, 2), lambda: town.keeps(0), lambda: town.come_to(0),
                 lambda: town.tells(0, 7, 4)]
        told = [deed() for deed in deeds]
        town.hush(5)
        town.come(6, 0)
        town.go(4)
        self.assertEqual(told, [[0, 4, 5, 7], [0, 4, 5, 7], [5, 4], [4, 5], [0, 4, 5, 7], [5]])


class TestTells(unittest.TestCase):
    def test_the_room_nearest(self):
        town = small_town(2)
        self.assertEqual(town.tells(7, 0, 1), [0, 4])
        self.assertEqual(town.tells(7, 5, 1), [5, 4])
        self.assertEqual(town.tells(4, 6, 1), [7, 5])
        self.assertEqual(small_town(1).tells(4, 6, 1), [7])

    def test_fewer_where_it_keeps_fewer(self):
        town = small_town(8)
        self.assertEqual(town.tells(7, 0, 7), [0, 4, 5])
        self.assertEqual(town.tells(7, 0, 5), [0, 4])
        alone = Town(3, 8)
        alone.come(6)
        self.assertEqual(alone.tells(6, 0, 6), [])
        self.assertEqual(alone.tells(6, 0, 1), [])

    def test_but_the_asker(self):
        town = small_town(2)
        self.assertEqual(town.tells(7, 0, 0), [4, 5])
        self.assertEqual(town.tells(7, 0, 4), [0, 5])
        self.assertEqual(town.tells(7, 0, 7), [0, 4])
        self.assertEqual(town.tells(7, 0, 6), [0, 4])

    def test_the_asker_needs_no_house(self):
        town = small_town(2)
        town.go(0)
        self.assertEqual(town.tells(7, 0, 0), [4, 5])
        self.assertEqual(town.tells(7, 0, 5), [0, 4])

    def test_it_tells_silent_ones_and_those_that_went(self):
        town = small_town(8)
        town.hush(4)
        town.go(5)
        self.assertEqual(town.tells(7, 5, 7), [5, 4, 0])

    def test_none_of_silent_ones_and_of_no_houses(self):
        town = small_town(2)
        town.hush(4)
        town.go(5)
        for house in [4, 5, 6, 1]:
            self.assertIsNone(town.tells(house, 7, 0))
        town.come(1)
        for house in no_numbers() + [None, -1, 8]:
            self.assertIsNone(town.tells(house, 7, 0))

    def test_it_changes_nothing(self):
        town = small_town(2)
        ahead = whole(town)
        town.tells(0, 7, 4)
        self.assertEqual(whole(town), ahead)


class TestAsk(unittest.TestCase):
    def test_row_and_found(self):
        answer = small_town(2).ask(0, 7)
        self.assertIs(type(answer), tuple)
        self.assertEqual(answer, ([(0, [5, 4]), (5, [7, 4]), (7, [5, 4])], [7, 5]))
        self.assertEqual(small_town(1).ask(0, 7), ([(0, [4]), (4, [7]), (7, [4])], [7]))

    def test_alone(self):
        town = Town(3, 2)
        town.come(6)
        self.assertEqual(town.ask(6, 0), ([(6, [])], []))
        self.assertEqual(town.ask(6, 6), ([(6, [])], []))
        self.assertEqual(town.keeps(6), [])

    def test_again_and_full_by_the_row(self):
        # 0 hears of 5, which goes to the end, and of 7, for which 4 is asked and answers.
        town = small_town(2)
        town.ask(0, 7)
        self.assertEqual(kept_by(town, 0), {2: [5, 4]})
        self.assertEqual(kept_by(town, 4), {0: [5], 1: [7], 2: [0]})
        self.assertEqual(kept_by(town, 5), {0: [4], 1: [7], 2: [0]})
        self.assertEqual(kept_by(town, 7), {1: [4, 5], 2: [0]})

    def test_the_found_ones_that_were_asked_are_heard_of_in_the_rows_order(self):
        # For 4 the row is 0, 4, 5, so 0 hears of 4 and then of 5.
        town = small_town(2)
        self.assertEqual(town.ask(0, 4), ([(0, [4, 5]), (4, [5, 7]), (5, [4, 7])], [4, 5]))
        self.assertEqual(town.bucket(0, 2), [4, 5])

    def test_instead_of_one_that_is_silent(self):
        # 4 is told but never stands, so it isn't asked nor dropped; 7 is heard of in its stead.
        town = small_town(2)
        town.hush(4)
        self.assertEqual(town.ask(0, 7), ([(0, [5, 4]), (5, [7, 4]), (7, [5, 4])], [7, 5]))
        self.assertEqual(kept_by(town, 0), {2: [5, 7]})

    def test_silent_ones_that_were_asked_are_dropped_by_the_start_alone(self):
        town = small_town(2)
        town.hush(5)
        row = [(0, [5, 4]), (5, None), (4, [7, 5]), (7, [5, 4])]
        self.assertEqual(town.ask(0, 7), (row, [7, 4]))
        self.assertEqual(kept_by(town, 0), {2: [4, 7]})
        self.assertEqual(kept_by(town, 4), {0: [5], 1: [7], 2: [0]})
        self.assertEqual(kept_by(town, 7), {1: [4, 5], 2: [0]})
        self.assertEqual(kept_by(town, 5), {0: [4], 1: [7], 2: [0]})

    def test_those_that_went_are_dropped_too(self):
        town = small_town(1)
        town.go(4)
        self.assertEqual(town.ask(0, 7), ([(0, [4]), (4, None)], []))
        self.assertEqual(kept_by(town, 0), {})
        self.assertEqual(town.ask(0, 7), ([(0, [])], []))

    def test_a_silent_one_that_the_start_did_not_keep(self):
        town = small_town(1)
        town.hush(7)
        self.assertEqual(town.ask(0, 7), ([(0, [4]), (4, [7]), (7, None)], [4]))
        self.assertEqual(kept_by(town, 0), {2: [4]})
        self.assertEqual(kept_by(town, 4), {0: [5], 1: [7], 2: [0]})

    def test_both_hear_of_one_another_anew(self):
        town = two_circles()
        self.assertEqual([town.keeps(0), town.keeps(4), town.keeps(5)], [[1], [1, 5], [1, 4]])
        self.assertEqual(town.ask(0, 5), ([(0, [1]), (1, [5, 4]), (5, [4, 1]), (4, [5, 1])], [5, 4]))
        self.assertEqual(kept_by(town, 0), {0: [1], 2: [5, 4]})
        self.assertEqual(kept_by(town, 1), {0: [0], 2: [4, 5]})
        self.assertEqual(kept_by(town, 4), {0: [5], 2: [1, 0]})
        self.assertEqual(kept_by(town, 5), {0: [4], 2: [1, 0]})

    def test_the_row_is_the_askers_own(self):
        town = small_town(2)
        ahead = whole(town)
        row, found = town.ask(0, 7)
        for house, told in row:
            told.append(6)
        row.clear()
        found.clear()
        self.assertEqual(whole(town), ahead)
        self.assertEqual(town.ask(0, 7), ([(0, [5, 4]), (5, [7, 4]), (7, [5, 4])], [7, 5]))


class TestWay(unittest.TestCase):
    def test_ways(self):
        town = small_town(1)
        self.assertEqual(town.way(0, 7), [0, 4, 7])
        self.assertEqual(town.way(0, 0), [0])
        self.assertEqual(town.way(7, 1), [7, 0])
        self.assertEqual(town.way(7, 5), [7, 4, 5])

    def test_alone(self):
        town = Town(1, 1)
        town.come(1)
        self.assertEqual(town.way(1, 0), [1])

    def test_by_those_that_answer_alone(self):
        town = small_town(2)
        town.hush(5)
        self.assertEqual(town.way(0, 5), [0, 4])
        town.go(4)
        self.assertEqual(town.way(0, 5), [0])

    def test_nothing_changes(self):
        town = small_town(2)
        town.hush(5)
        town.go(4)
        ahead = whole(town)
        for goal in range(8):
            for start in [0, 7]:
                town.way(start, goal)
        self.assertEqual(whole(town), ahead)


class TestComeTo(unittest.TestCase):
    def test_itself(self):
        town = Town(3, 2)
        town.come(6)
        town.come(1)
        self.assertEqual(town.come_to(6), [6])
        self.assertEqual(town.come_to(1), [1])

    def test_those_that_it_keeps_and_those_that_these_keep(self):
        town = small_town(1)
        self.assertEqual(town.keeps(0), [4])
        for house in [0, 4, 5, 7]:
            self.assertEqual(town.come_to(house), [0, 4, 5, 7])

    def test_not_by_silent_ones_nor_by_those_that_went(self):
        town = small_town(1)
        town.hush(4)
        self.assertEqual(town.come_to(0), [0])
        self.assertEqual(town.come_to(5), [0, 5, 7])
        town.go(4)
        self.assertEqual(town.come_to(0), [0])
        self.assertEqual(town.come_to(7), [0, 7])

    def test_it_need_not_lead_back(self):
        town = small_town(1)
        town.go(4)
        self.assertEqual(town.come_to(0), [0])
        self.assertIn(0, town.come_to(7))

    def test_by_a_long_row_of_houses(self):
        # The doors' tables lead on by one house each: circle by circle, joined by a house that woke.
        town = Town(6, 1)
        town.come(0)
        for name in range(1, 20):
            town.come(name)
            town.hush(name)
            town.wake(name, name - 1)
        for house in range(20):
            self.assertEqual(town.come_to(house), list(range(20)))

    def test_nothing_changes(self):
        town = small_town(2)
        town.hush(4)
        ahead = whole(town)
        town.come_to(0)
        self.assertEqual(whole(town), ahead)


class TestCome(unittest.TestCase):
    def test_alone(self):
        town = Town(3, 2)
        for name in [3, 0, 7]:
            self.assertEqual(town.come(name), [])
        self.assertEqual(town.houses(), [0, 3, 7])
        self.assertEqual([town.keeps(house) for house in [0, 3, 7]], [[], [], []])
        self.assertEqual(town.come(5, None), [])
        self.assertEqual(town.come(6, door=None), [])

    def test_by_a_door(self):
        town = Town(3, 2)
        town.come(0)
        self.assertEqual(town.come(4, 0), [0])
        self.assertEqual([kept_by(town, 0), kept_by(town, 4)], [{2: [4]}, {2: [0]}])
        self.assertEqual(town.come(5, door=4), [0, 4])
        self.assertEqual(town.come(7, 5), [0, 4, 5])

    def test_by_the_door_nought(self):
        town = Town(1, 1)
        town.come(0)
        self.assertEqual(town.come(1, 0), [0])
        self.assertEqual([town.keeps(0), town.keeps(1)], [[1], [0]])

    def test_it_visits_by_rising_names(self):
        # Of those of one step the lesser names come first, whatever the door.
        for door in [1, 2, 3]:
            town = Town(3, 2)
            town.come(3)
            town.come(1, 3)
            town.come(2, 3)
            self.assertEqual(town.come(4, door), [1, 2, 3])
            self.assertEqual(town.bucket(4, 2), [2, 1])
            town = Town(3, 4)
            town.come(3)
            town.come(1, 3)
            town.come(2, 3)
            self.assertEqual(town.come(4, door), [1, 2, 3])
            self.assertEqual(town.bucket(4, 2), [1, 2, 3])

    def test_it_visits_those_alone_that_are_come_to_from_the_door(self):
        town = Town(3, 2)
        town.come(0)
        town.come(1, 0)
        town.come(6)
        self.assertEqual(town.come(5, 0), [0, 1])
        self.assertEqual(town.come(7, 6), [6])
        self.assertEqual([town.keeps(5), town.keeps(6)], [[0, 1], [7]])

    def test_it_does_not_visit_silent_ones(self):
        town = small_town(4)
        town.hush(4)
        self.assertEqual(town.come(6, 0), [0, 5, 7])
        self.assertEqual(town.keeps(6), [0, 5, 7])
        self.assertEqual(town.keeps(4), [0, 5, 7])

    def test_it_does_not_visit_itself_though_elder_tables_keep_its_name(self):
        town = small_town(4)
        town.go(5)
        self.assertIn(5, town.keeps(0))
        self.assertEqual(town.come(5, 0), [0, 4, 7])
        self.assertEqual(kept_by(town, 5), {0: [4], 1: [7], 2: [0]})
        self.assertEqual(town.bucket(0, 2), [4, 7, 5])

    def test_full_buckets_with_an_elder_name_that_answers(self):
        town = Town(3, 1)
        town.come(0)
        town.come(4, 0)
        self.assertEqual(town.come(5, 0), [0, 4])
        self.assertEqual(kept_by(town, 0), {2: [4]})
        self.assertEqual(kept_by(town, 5), {0: [4], 2: [0]})

    def test_full_buckets_with_an_elder_name_that_does_not_answer(self):
        for deed in [Town.hush, Town.go]:
            town = Town(3, 1)
            town.come(0)
            town.come(4, 0)
            deed(town, 4)
            self.assertEqual(town.come(5, 0), [0])
            self.assertEqual(kept_by(town, 0), {2: [5]})
            self.assertEqual(kept_by(town, 5), {2: [0]})

    def test_the_first_name_alone_is_asked(self):
        # 5 is silent, but 4, the first, answers: the new one is left out, and 5 is the first now.
        town = small_town(2)
        town.ask(0, 4)
        self.assertEqual(town.bucket(0, 2), [4, 5])
        town.hush(5)
        self.assertEqual(town.come(6, 0), [0, 4, 7])
        self.assertEqual(town.bucket(0, 2), [5, 4])
        town.go(6)
        self.assertEqual(town.come(6, 0), [0, 4, 7])
        self.assertEqual(town.bucket(0, 2), [4, 6])


class TestGoAndComeAgain(unittest.TestCase):
    def test_it_is_no_house_any_more(self):
        town = small_town(2)
        self.assertIsNone(town.go(5))
        self.assertEqual(town.houses(), [0, 4, 7])
        self.assertEqual(town.answering(), [0, 4, 7])
        self.assertIs(town.answers(5), False)

    def test_the_others_keep_its_name(self):
        town = small_town(2)
        town.go(5)
        self.assertEqual([town.keeps(house) for house in [0, 4, 7]], [[4, 5], [0, 5, 7], [0, 4, 5]])

    def test_it_comes_again_with_an_empty_table(self):
        town = small_town(2)
        town.go(5)
        self.assertEqual(town.come(5), [])
        self.assertEqual(town.keeps(5), [])
        self.assertIs(town.answers(5), True)
        self.assertEqual(town.come_to(0), [0, 4, 5, 7])
        self.assertEqual(town.come_to(5), [5])

    def test_a_silent_one_goes_and_comes_again_answering(self):
        town = small_town(2)
        town.hush(5)
        town.go(5)
        self.assertEqual(town.houses(), [0, 4, 7])
        town.come(5)
        self.assertIs(town.answers(5), True)
        self.assertEqual(town.keeps(5), [])

    def test_all_go(self):
        town = small_town(2)
        for house in [0, 4, 5, 7]:
            town.go(house)
        self.assertEqual(whole(town), whole(Town(3, 2)))


class TestHushAndWake(unittest.TestCase):
    def test_a_silent_house_keeps_its_table(self):
        town = small_town(2)
        ahead = whole(town)
        self.assertIsNone(town.hush(5))
        self.assertEqual(whole(town), ahead[:3] + ([0, 4, 7], ahead[4]))

    def test_a_silent_one_stays_so(self):
        town = small_town(2)
        town.hush(5)
        ahead = whole(town)
        self.assertIsNone(town.hush(5))
        self.assertEqual(whole(town), ahead)
        town.wake(5, 0)
        self.assertEqual(town.answering(), [0, 4, 5, 7])

    def test_a_silent_one_hears_of_nobody(self):
        town = small_town(4)
        town.hush(5)
        kept = kept_by(town, 5)
        town.come(6, 0)
        town.ask(0, 5)
        self.assertEqual(kept_by(town, 5), kept)

    def test_it_wakes_with_its_table_and_visits(self):
        town = small_town(4)
        town.hush(5)
        town.come(6, 0)
        town.come(1, 0)
        self.assertEqual(kept_by(town, 5), {0: [4], 1: [7], 2: [0]})
        self.assertEqual(town.wake(5, 0), [0, 1, 4, 6, 7])
        self.assertEqual(kept_by(town, 5), {0: [4], 1: [6, 7], 2: [0, 1]})
        self.assertEqual(town.answering(), [0, 1, 4, 5, 6, 7])
        self.assertIn(5, town.keeps(1))
        self.assertIn(5, town.keeps(6))

    def test_those_visited_are_reckoned_by_its_own_table_too(self):
        town = two_circles()
        town.hush(1)
        self.assertEqual(town.come_to(0), [0])
        self.assertEqual(town.wake(1, 0), [0, 4, 5])
        self.assertEqual(kept_by(town, 1), {0: [0], 2: [4, 5]})

    def test_a_door_that_does_not_keep_it_leads_to_the_doors_own_alone(self):
        town = Town(3, 2)
        town.come(0)
        town.come(1, 0)
        town.come(4)
        town.hush(1)
        self.assertEqual(town.wake(1, 4), [4])
        self.assertEqual(kept_by(town, 1), {0: [0], 2: [4]})
        self.assertEqual(town.come_to(4), [0, 1, 4])

    def test_it_does_not_visit_those_of_its_table_that_are_silent(self):
        town = small_town(2)
        town.hush(5)
        town.hush(7)
        self.assertEqual(town.wake(5, 0), [0, 4])
        self.assertEqual(kept_by(town, 5), {0: [4], 1: [7], 2: [0]})

    def test_the_door_may_be_known_by_nobody(self):
        town = small_town(2)
        town.come(2)
        town.hush(0)
        self.assertEqual(town.wake(0, 2), [2])
        self.assertEqual(town.keeps(2), [0])

    def test_lists_of_those_visited_are_the_askers_own(self):
        town = small_town(2)
        town.hush(5)
        for deed in [lambda: town.wake(5, 0), lambda: town.come(6, 0), lambda: town.come(1)]:
            told = deed()
            self.assertIs(type(told), list)
            ahead = whole(town)
            told.clear()
            told.append(3)
            self.assertEqual(whole(town), ahead)


if __name__ == "__main__":
    unittest.main()
