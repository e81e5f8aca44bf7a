import unittest

import test_town_refusals
from helpers import ANSWERING, FREE, SILENT, no_names, of_all_sorts, whole_market
from nearnames.errors import NearError, NoHouse, NoName, Silent
from nearnames.markets import Market


class TestRefusalsAsOfATown(test_town_refusals.TestRefusals):
    kind = Market


class TestRefusals(unittest.TestCase):
    def setUp(self):
        self.market = of_all_sorts(Market(3, 2))
        self.market.lay(0, 7, "some")
        self.market.lay(0, 2, "other")
        self.ahead = whole_market(self.market)

    def check(self, wanted, deed, *given):
        with self.assertRaises(NearError) as caught:
            deed(*given)
        self.assertIs(type(caught.exception), wanted)
        self.assertEqual(whole_market(self.market), self.ahead)

    def check_both(self, wanted, start, key):
        self.check(wanted, self.market.lay, start, key, "text")
        self.check(wanted, self.market.seek, start, key)

    def test_from_no_house(self):
        for start in no_names() + FREE:
            for key in [0, 7, 8, -1, None, True, "0", []]:
                self.check_both(NoHouse, start, key)

    def test_from_a_silent_house(self):
        for start in SILENT:
            for key in [0, 7] + no_names():
                self.check_both(Silent, start, key)

    def test_by_no_name(self):
        for start in ANSWERING:
            for key in no_names():
                self.check_both(NoName, start, key)

    def test_kept_of_no_house(self):
        for house in no_names() + FREE:
            self.check(NoHouse, self.market.kept, house)

    def test_a_refused_laying_is_not_counted(self):
        self.check(NoName, self.market.lay, 0, 8, "text")
        self.check(NoHouse, self.market.lay, 3, 7, "text")
        self.check(Silent, self.market.lay, 2, 7, "text")
        self.assertEqual(self.market.lay(0, 7, "third"), [5, 1])
        self.assertEqual(self.market.kept(5), [(7, 2, "third")])

    def test_refused_deeds_move_no_things(self):
        for name in ANSWERING + SILENT:
            with self.assertRaises(NearError):
                self.market.come(name, 0)
        for house, door in [(3, 0), (0, 1), (2, 6), (2, 3), (2, None)]:
            with self.assertRaises(NearError):
                self.market.wake(house, door)
        for house in no_names() + FREE:
            for deed in [self.market.go, self.market.hush]:
                with self.assertRaises(NearError):
                    deed(house)
        self.assertEqual(whole_market(self.market), self.ahead)

    def test_in_a_market_without_houses(self):
        self.market = Market(3, 2)
        self.ahead = whole_market(self.market)
        for name in range(8):
            self.check_both(NoHouse, name, 0)
            self.check(NoHouse, self.market.kept, name)


if __name__ == "__main__":
    unittest.main()
