import unittest

from helpers import ANSWERING, FREE, SILENT, no_names, of_all_sorts, whole
from nearnames.errors import NearError, NoHouse, NoName, Silent, Taken
from nearnames.towns import Town


def no_doors():
    # None as a door is no wrong one: the house comes alone.
    return [thing for thing in no_names() if thing is not None] + FREE


class TestRefusals(unittest.TestCase):
    kind = Town

    def setUp(self):
        self.town = of_all_sorts(self.kind(3, 2))
        self.ahead = whole(self.town)

    def check(self, wanted, deed, *given):
        with self.assertRaises(NearError) as caught:
            deed(*given)
        self.assertIs(type(caught.exception), wanted)
        self.assertEqual(whole(self.town), self.ahead)

    def test_come_by_no_name(self):
        for name in no_names():
            self.check(NoName, self.town.come, name)
            self.check(NoName, self.town.come, name, None)
            for door in [0, 1, 2, 3, 4, 8, True, "0", [], self.town]:
                self.check(NoName, self.town.come, name, door)

    def test_come_by_a_name_that_is_taken(self):
        for name in ANSWERING + SILENT:
            self.check(Taken, self.town.come, name)
            for door in [None, 0, 1, 2, name] + no_doors():
                self.check(Taken, self.town.come, name, door)

    def test_come_by_no_door(self):
        for name in FREE:
            for door in no_doors():
                self.check(NoHouse, self.town.come, name, door)

    def test_come_by_a_silent_door(self):
        for name in FREE:
            for door in SILENT:
                self.check(Silent, self.town.come, name, door)

    def test_come_by_itself(self):
        for name in FREE:
            self.check(NoHouse, self.town.come, name, name)

    def test_go_and_hush(self):
        for house in no_names() + FREE:
            self.check(NoHouse, self.town.go, house)
            self.check(NoHouse, self.town.hush, house)

    def test_wake_no_house(self):
        for house in no_names() + FREE:
            for door in [0, 2, 3, 8, None, True, "0", []]:
                self.check(NoHouse, self.town.wake, house, door)

    def test_wake_one_that_answers(self):
        for house in ANSWERING:
            for door in [0, 2, house, None] + no_doors():
                self.check(Taken, self.town.wake, house, door)

    def test_wake_by_no_door(self):
        for house in SILENT:
            for door in no_doors() + [None]:
                self.check(NoHouse, self.town.wake, house, door)

    def test_wake_by_a_silent_door(self):
        for house in SILENT:
            for door in SILENT:
                self.check(Silent, self.town.wake, house, door)

    def test_come_to(self):
        for house in no_names() + FREE:
            self.check(NoHouse, self.town.come_to, house)
        for house in SILENT:
            self.check(Silent, self.town.come_to, house)

    def test_ask_and_way_from_no_house(self):
        for deed in [self.town.ask, self.town.way]:
            for house in no_names() + FREE:
                for goal in [0, 7, 8, -1, None, True, "0", []]:
                    self.check(NoHouse, deed, house, goal)

    def test_ask_and_way_from_a_silent_house(self):
        for deed in [self.town.ask, self.town.way]:
            for house in SILENT:
                for goal in [0, 7] + no_names():
                    self.check(Silent, deed, house, goal)

    def test_ask_and_way_for_no_name(self):
        for deed in [self.town.ask, self.town.way]:
            for house in ANSWERING:
                for goal in no_names():
                    self.check(NoName, deed, house, goal)

    def test_bucket_and_keeps(self):
        for house in no_names() + FREE:
            self.check(NoHouse, self.town.keeps, house)
            for k in range(3):
                self.check(NoHouse, self.town.bucket, house, k)

    def test_the_edges_of_each_wide(self):
        for wide in range(1, 61):
            self.town = self.kind(wide, 1)
            self.town.come(0)
            self.ahead = whole(self.town)
            for name in [2 ** wide, 2 ** wide + 1, -1]:
                self.check(NoName, self.town.come, name)
                self.check(NoName, self.town.ask, 0, name)
                self.check(NoName, self.town.way, 0, name)
                self.check(NoHouse, self.town.go, name)
            self.assertEqual(self.town.come(2 ** wide - 1, 0), [0])

    def test_in_a_town_without_houses(self):
        self.town = self.kind(3, 2)
        self.ahead = whole(self.town)
        for name in range(8):
            self.check(NoHouse, self.town.come, name, 0)
            for deed in [self.town.go, self.town.hush, self.town.come_to, self.town.keeps]:
                self.check(NoHouse, deed, name)
            for deed in [self.town.wake, self.town.ask, self.town.way]:
                self.check(NoHouse, deed, name, 0)

    def test_behind_refusals_all_goes_on(self):
        for thing in no_names():
            self.check(NoName, self.town.come, thing, 0)
        self.assertEqual(self.town.come(4, 0), [0, 1, 5])
        self.assertEqual(self.town.wake(2, 4), [0, 1, 4, 5])


if __name__ == "__main__":
    unittest.main()
