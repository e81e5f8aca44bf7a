import inspect
import unittest

from nearnames import asks, buckets, desk, markets, names, rests, tables, towns

NAMES = {
    "is_name": "thing, wide",
    "far": "one, other",
    "nearer": "goal, one, other",
    "by_nearness": "goal, names",
    "step": "one, other",
    "span": "name, k",
    "shown": "name, wide",
    "read": "text, wide",
}
BUCKET = {
    "__init__": "self, room",
    "hears": "self, name, answers",
    "drops": "self, name",
    "names": "self",
}
TABLE = {
    "__init__": "self, own, wide, room",
    "hears": "self, name, answers",
    "drops": "self, name",
    "bucket": "self, k",
    "keeps": "self",
    "nearest": "self, goal, many, but=None",
}
ASKS = {
    "asked": "start, goal, room, tells",
    "way": "start, goal, tells",
}
TOWN = {
    "__init__": "self, wide, room",
    "houses": "self",
    "answering": "self",
    "answers": "self, name",
    "bucket": "self, house, k",
    "keeps": "self, house",
    "tells": "self, house, goal, asker",
    "come_to": "self, house",
    "ask": "self, start, goal",
    "way": "self, start, goal",
    "come": "self, name, door=None",
    "go": "self, house",
    "hush": "self, house",
    "wake": "self, house, door",
}
RESTS = {
    "fault": "town",
    "holes": "town",
    "look_round": "town, house",
    "tide": "town",
}
MARKET = {
    "__init__": "self, wide, room",
    "lay": "self, start, key, text",
    "seek": "self, start, key",
    "kept": "self, house",
    "tide": "self",
}
DESK = {
    "__init__": "self",
    "say": "self, line",
}


class TestInterface(unittest.TestCase):
    def check(self, holder, wanted):
        for word, arguments in wanted.items():
            with self.subTest(word):
                self.assertEqual(str(inspect.signature(getattr(holder, word))), f"({arguments})")

    def test_names(self):
        self.check(names, NAMES)

    def test_a_bucket(self):
        self.check(buckets.Bucket, BUCKET)

    def test_a_table(self):
        self.check(tables.Table, TABLE)

    def test_asks(self):
        self.check(asks, ASKS)

    def test_a_town(self):
        self.check(towns.Town, TOWN)

    def test_rests(self):
        self.check(rests, RESTS)

    def test_a_market(self):
        self.check(markets.Market, {**TOWN, **MARKET})

    def test_a_desk(self):
        self.check(desk.Desk, DESK)


if __name__ == "__main__":
    unittest.main()
