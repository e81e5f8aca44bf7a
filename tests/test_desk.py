import random
import unittest

from helpers import MarketModel, Unlike, deep_list, whole_market
from nearnames.desk import Desk
from nearnames.errors import NearError, NoHouse, NoLine, NoName, NoSize, NoTown, Silent, Taken


def told(*lines):
    """A desk that was told these lines."""
    desk = Desk()
    for line in lines:
        desk.say(line)
    return desk


def small_desk(room=2):
    """A market of three signs with the houses 000, 100, 101 and 111."""
    return told(f"town 3 {room}", "come 000", "come 100 000", "come 101 000", "come 111 000")


def desk_of_all_sorts():
    """000, 001 and 101 answer, 010 and 110 are silent, 100 went though others keep it."""
    names = ["001", "010", "100", "101", "110"]
    lines = ["town 3 2", "come 000"] + [f"come {name} 000" for name in names]
    return told(*lines, "lay 000 111 some", "go 100", "hush 010", "hush 110")


class Lines(unittest.TestCase):
    def check(self, desk, *pairs):
        for line, answer in pairs:
            heard = desk.say(line)
            self.assertEqual(heard, answer, line)
            self.assertIs(type(heard), str)

    def check_refused(self, desk, line, wanted):
        ahead = desk.market and whole_market(desk.market)
        with self.assertRaises(NearError, msg=repr(line)) as caught:
            desk.say(line)
        self.assertIs(type(caught.exception), wanted, line)
        self.assertEqual(desk.market and whole_market(desk.market), ahead)


class TestAnswers(Lines):
    def test_town(self):
        for line in ["town 1 1", "town 60 8", "town 3 2", "town 10 1"]:
            self.check(Desk(), (line, "ok"), ("houses", "-"))

    def test_a_town_in_the_place_of_an_elder_one(self):
        desk = small_desk()
        self.check(desk, ("lay 000 111 some", "111 101"), ("town 4 1", "ok"), ("houses", "-"))
        self.check(desk, ("come 1111", "-"), ("seek 1111 1111", "none"), ("houses", "1111"))
        self.check_refused(desk, "come 111", NoName)
        self.check(desk, ("town 4 1", "ok"), ("houses", "-"))

    def test_come(self):
        self.check(told("town 3 2"), ("come 000", "-"), ("come 100 000", "000"), ("come 101 100", "000 100"),
                   ("come 111 000", "000 100 101"), ("come 001", "-"))

    def test_wake(self):
        desk = small_desk()
        self.check(desk, ("hush 101", "ok"), ("wake 101 000", "000 100 111"), ("houses", "000 100 101 111"))
        self.check(desk, ("come 010", "-"), ("hush 111", "ok"), ("wake 111 010", "010"))

    def test_a_house_that_wakes_alone_with_its_door(self):
        # The door is never the house itself, so somebody is always visited.
        self.check(told("town 1 1", "come 0", "come 1", "hush 0"), ("wake 0 1", "1"))

    def test_go_and_hush(self):
        desk = small_desk()
        self.check(desk, ("go 100", "ok"), ("houses", "000 101 111"), ("hush 101", "ok"), ("hush 101", "ok"),
                   ("houses", "000 101? 111"), ("go 101", "ok"), ("houses", "000 111"))
        self.check(desk, ("go 000", "ok"), ("go 111", "ok"), ("houses", "-"))

    def test_houses(self):
        desk = small_desk()
        self.check(desk, ("houses", "000 100 101 111"), ("hush 000", "ok"), ("hush 111", "ok"),
                   ("houses", "000? 100 101 111?"))
        self.check(told("town 1 1", "come 1", "hush 1"), ("houses", "1?"))

    def test_table(self):
        desk = small_desk()
        self.check(desk, ("table 000", "2:101,100"), ("table 100", "0:101 1:111 2:000"),
                   ("table 111", "1:100,101 2:000"))
        self.check(told("town 3 2", "come 000"), ("table 000", "-"))
        desk.say("ask 000 111")
        self.check(desk, ("table 000", "2:101,100"))
        desk.say("ask 000 100")
        self.check(desk, ("table 000", "2:100,101"))

    def test_table_of_silent_houses_and_with_lost_names(self):
        desk = small_desk()
        self.check(desk, ("hush 101", "ok"), ("go 100", "ok"), ("table 101", "0:100 1:111 2:000"),
                   ("table 000", "2:101,100"))

    def test_table_with_steps_of_two_figures(self):
        far, near = "1" + "0" * 11, "0" * 11 + "1"
        desk = told("town 12 2", "come " + "0" * 12, f"come {far} {'0' * 12}", f"come {near} {'0' * 12}")
        self.check(desk, ("table " + "0" * 12, f"0:{near} 11:{far}"))

    def test_ask(self):
        desk = small_desk()
        self.check(desk, ("ask 000 111", "111 101"), ("ask 000 100", "100 101"), ("ask 111 111", "101 100"))
        self.check(small_desk(8), ("ask 000 111", "111 101 100"))
        self.check(told("town 3 2", "come 000"), ("ask 000 111", "-"))

    def test_an_ask_teaches(self):
        desk = small_desk()
        self.check(desk, ("hush 101", "ok"), ("ask 000 111", "111 100"), ("table 000", "2:100,111"))

    def test_way(self):
        self.check(small_desk(1), ("way 000 111", "000 100 111"), ("way 000 000", "000"),
                   ("way 111 101", "111 100 101"))

    def test_lay_and_seek(self):
        desk = small_desk()
        self.check(desk, ("seek 000 111", "none"), ("lay 000 111 some", "111 101"), ("seek 100 111", "some"),
                   ("lay 111 111 other", "111 101"), ("seek 000 111", "other"), ("seek 000 110", "none"))
        self.check(desk, ("lay 000 001 a", "000 101"), ("seek 111 001", "a"),
                   ("lay 000 001 " + "z" * 20, "000 101"), ("seek 111 001", "z" * 20))
        self.check(told("town 3 2", "come 000"), ("lay 000 111 none", "000"), ("seek 000 111", "none"))

    def test_tide(self):
        desk = small_desk()
        self.check(desk, ("lay 000 111 some", "111 101"), ("come 110 000", "000 100 101 111"), ("hush 111", "ok"),
                   ("rest", "no 100 1"), ("tide", "ok"), ("rest", "yes"), ("table 100", "0:101 1:110 2:000"))
        self.assertEqual(desk.market.kept(0b110), [(7, 0, "some")])
        self.check(desk, ("hush 101", "ok"), ("tide", "ok"), ("seek 000 111", "some"))
        self.assertEqual(desk.market.kept(0b100), [(7, 0, "some")])
        self.check(told("town 3 2"), ("tide", "ok"))

    def test_rest(self):
        self.check(told("town 3 2"), ("rest", "yes"))
        desk = small_desk()
        self.check(desk, ("rest", "yes"), ("hush 101", "ok"), ("rest", "no 000 2"), ("tide", "ok"), ("rest", "yes"))
        desk = told("town 12 1", "come 100000000000", "come 000000000001")
        self.check(desk, ("rest", "no 000000000001 11"))

    def test_holes(self):
        self.check(told("town 3 2"), ("holes", "0"))
        self.check(small_desk(1), ("holes", "0"), ("hush 100", "ok"), ("holes", "2"))
        desk = told("town 4 1", *[f"come {name:04b}" for name in range(16)])
        self.check(desk, ("holes", "64"))

    def test_names_are_of_the_markets_wide(self):
        for wide in [1, 2, 10, 59, 60]:
            low, high = "0" * wide, "1" * wide
            desk = told(f"town {wide} 1", f"come {low}")
            self.check(desk, (f"come {high} {low}", low), ("houses", f"{low} {high}"),
                       (f"way {low} {high}", f"{low} {high}"))
            for wrong in ["0" * (wide - 1), "0" * (wide + 1)]:
                self.check_refused(desk, f"go {wrong}", NoName)

    def test_two_desks_share_nothing(self):
        one, other = small_desk(), Desk()
        self.check_refused(other, "houses", NoTown)
        other.say("town 2 1")
        self.check(other, ("houses", "-"), ("come 00", "-"))
        self.check(one, ("houses", "000 100 101 111"))


# Each line with words that are as they are wanted, to be spoiled below.
LINES = ["town 3 2", "come 011", "come 011 000", "wake 010 000", "go 000", "hush 000", "tide", "houses", "table 000",
         "ask 000 111", "way 000 111", "lay 000 111 text", "seek 000 111", "rest", "holes"]


class TestNoLine(Lines):
    def setUp(self):
        self.desks = [Desk(), told("town 3 2"), desk_of_all_sorts()]

    def check_no_line(self, line):
        for desk in self.desks:
            self.check_refused(desk, line, NoLine)

    def test_what_is_no_text(self):
        for thing in [None, True, False, 0, 1, -1, 10 ** 59, 1.5, b"rest", [], ["rest"], ("rest",), (), {}, {"rest": 1},
                      {"rest"}, frozenset(), object(), str, len, Unlike(), deep_list()]:
            self.check_refused_thing(thing)

    def check_refused_thing(self, thing):
        for desk in self.desks:
            with self.assertRaises(NearError) as caught:
                desk.say(thing)
            self.assertIs(type(caught.exception), NoLine)

    def test_the_empty_line_and_blanks(self):
        for line in ["", " ", "  ", "   ", " rest", "rest ", "  rest", " rest ", " come 000", "  come 000",
                     " town 3 2", "  tide"]:
            self.check_no_line(line)

    def test_wrong_first_words(self):
        for word in ["x", "Come", "COME", "comes", "com", "?", "-", "ok", "0", "000", "none", "kept", "keeps", "town3",
                     "answers", "look_round", "fault", "bucket", "name", "NAME", "number", "text", "say", "market"]:
            for behind in ["", " 000", " 000 000", " 000 000 text", " 3 2"]:
                self.check_no_line(word + behind)

    def test_wrong_numbers_of_words(self):
        known = {(line.split(" ")[0], len(line.split(" "))) for line in LINES}
        for line in LINES:
            words = line.split(" ")
            for many in range(7):
                spoiled = (words + ["000"] * 7)[:many + 1]
                if (words[0], many + 1) not in known:
                    self.check_no_line(" ".join(spoiled))

    def test_two_blanks_make_one_word_more(self):
        for line in ["tide ", "houses ", "rest  ", "go  000", "go 000 ", "town  3 2", "town 3  2", "town 3 2 ",
                     "come 011  000", "come 011 000 ", "wake  010 000", "lay 000  111 some", "lay 000 111 some "]:
            self.check_no_line(line)

    def test_no_line_comes_ahead_of_no_town_and_of_wrong_words(self):
        for line in ["town", "town x", "town x y z", "come", "come x y z", "lay 000 111", "lay x y", "seek x", "rest x",
                     "tide tide", "holes 000"]:
            self.check_no_line(line)

    def test_whatever_long(self):
        for line in ["x" * 2000, " " * 2000, "rest " * 400, "come" + " 000" * 400, "~" * 2000]:
            self.check_no_line(line)


class TestNoTown(Lines):
    def test_all_lines_but_town(self):
        for line in LINES[1:]:
            self.check_refused(Desk(), line, NoTown)

    def test_ahead_of_wrong_words(self):
        for line in ["come x", "come ", "come  ", "come 000 x", "go 2", "lay x y Z", "seek a b", "table 0000", "ask  ",
                     "lay   ", "wake 000 "]:
            self.check_refused(Desk(), line, NoTown)

    def test_behind_a_refused_town(self):
        desk = Desk()
        for line in ["town 0 1", "town 61 1", "town 3 9", "town a b"]:
            self.check_refused(desk, line, NoSize)
            self.check_refused(desk, "houses", NoTown)
        self.check(desk, ("town 3 2", "ok"), ("houses", "-"))


class TestWrongWords(Lines):
    def test_numbers(self):
        wrong = ["", "0", "00", "01", "08", "001", "000", "61", "9999", "1000", "0003", "+3", "-3", "3.", "3.0", "1_0",
                 "x", "3x", "0x3", "1e0", "999", "100", "3?"]
        for word in wrong:
            for desk in [Desk(), desk_of_all_sorts()]:
                self.check_refused(desk, f"town {word} 2", NoSize)
                self.check_refused(desk, f"town 3 {word}", NoSize)
                self.check_refused(desk, f"town {word} {word}", NoSize)
        for room in ["9", "10", "60"]:
            self.check_refused(desk_of_all_sorts(), f"town 3 {room}", NoSize)

    def test_all_numbers_that_are_right(self):
        for wide in range(1, 61):
            for room in range(1, 9):
                self.check(Desk(), (f"town {wide} {room}", "ok"))

    def test_names(self):
        wrong = ["", "0", "00", "0000", "002", "00x", "x", "+00", "-01", "0b0", "00?", "0o1", "OOO", "lll", "000000000"]
        for word in wrong:
            desk = desk_of_all_sorts()
            for line in ["come {}", "come {} 000", "come 011 {}", "wake {} 000", "wake 010 {}", "go {}", "hush {}",
                         "table {}", "ask {} 111", "ask 000 {}", "way {} 111", "way 000 {}", "lay {} 111 text",
                         "lay 000 {} text", "seek {} 111", "seek 000 {}"]:
                self.check_refused(desk, line.format(word), NoName)

    def test_texts(self):
        wrong = ["", "a" * 21, "a" * 200, "A", "aA", "Text", "a1", "1", "000", "a-b", "a_b", "a.", "?", "-", "`", "{",
                 "a~", "@", "["]
        for word in wrong:
            self.check_refused(desk_of_all_sorts(), f"lay 000 111 {word}", NoLine)

    def test_the_first_wrong_word_from_the_left_alone(self):
        desk = desk_of_all_sorts()
        for line, wanted in [("lay x 111 A", NoName), ("lay 000 x A", NoName), ("lay x y A", NoName),
                             ("lay 000 111 A", NoLine), ("town x 9999", NoSize), ("come x 000", NoName)]:
            self.check_refused(desk, line, wanted)

    def test_words_come_ahead_of_what_the_deed_refuses(self):
        # 011 is no house, 010 is silent, 000 answers: each deed would be refused for its first word.
        desk = desk_of_all_sorts()
        for line in ["come 000 x", "wake 011 x", "wake 000 x", "ask 011 x", "ask 010 x", "way 011 x", "way 010 x",
                     "seek 011 x", "seek 010 x", "lay 011 x text", "lay 010 x A"]:
            self.check_refused(desk, line, NoName)
        for line in ["lay 011 111 A", "lay 010 111 1"]:
            self.check_refused(desk, line, NoLine)


class TestRefusedDeeds(Lines):
    def test_each_deed(self):
        desk = desk_of_all_sorts()
        wanted = {
            Taken: ["come 000", "come 010", "come 000 011", "come 010 110", "wake 000 011", "wake 001 010",
                    "wake 101 101"],
            NoHouse: ["come 011 100", "come 011 111", "come 011 011", "wake 011 000", "wake 100 000", "wake 010 100",
                      "wake 010 011", "go 011", "go 100", "hush 011", "hush 100", "table 011", "table 100",
                      "ask 011 000", "ask 100 000", "way 011 000", "way 100 000", "lay 011 000 text",
                      "lay 100 000 text", "seek 011 000", "seek 100 000"],
            Silent: ["come 011 010", "come 011 110", "wake 010 110", "wake 010 010", "ask 010 000", "way 110 000",
                     "lay 010 000 text", "seek 110 111"],
        }
        for kind, lines in wanted.items():
            for line in lines:
                self.check_refused(desk, line, kind)

    def test_without_houses(self):
        desk = told("town 3 2")
        for line in ["come 000 000", "wake 000 000", "go 000", "hush 000", "table 000", "ask 000 000", "way 000 000",
                     "lay 000 000 text", "seek 000 000"]:
            self.check_refused(desk, line, NoHouse)

    def test_what_is_refused_changes_nothing(self):
        # Two desks, one of them told refused lines between the others, go on to answer alike.
        lines = ["houses", "lay 000 000 text", "seek 101 111", "come 011 001", "table 011", "wake 110 011", "tide",
                 "rest", "lay 110 101 more", "go 000", "holes", "ask 101 111", "houses", "town 2 1", "come 00"]
        refused = ["", "rest ", "town 0 0", "town 61 8", "town 3 02", "lay 000 111 A", "lay 011 x text",
                   "lay 100 111 text", "come 000 000", "wake 001 000", "seek 111 111", "go 111", "hush 1111", None, 7]
        one, other = desk_of_all_sorts(), desk_of_all_sorts()
        for line in lines:
            for wrong in refused:
                with self.assertRaises(NearError):
                    one.say(wrong)
            self.assertEqual(one.say(line), other.say(line), line)
            self.assertEqual(whole_market(one.market), whole_market(other.market))

    def test_a_refused_laying_is_not_counted(self):
        desk = desk_of_all_sorts()
        for line in ["lay 000 111 A", "lay 011 111 text", "lay 010 111 text", "lay 000 x text"]:
            with self.assertRaises(NearError):
                desk.say(line)
        desk.say("lay 000 111 text")
        self.assertEqual(desk.market.kept(0b101), [(7, 1, "text")])


class Teller:
    """Answers lines by the law of markets, told once more in the helpers."""

    def __init__(self, wide, room):
        self.model = MarketModel(wide, room)

    def shown(self, name):
        return format(name, f"0{self.model.wide}b")

    def names(self, names):
        return " ".join(self.shown(name) for name in names) or "-"

    def say(self, line):
        word, *given = line.split(" ")
        return getattr(self, f"say_{word}")(*[int(one, 2) if one[0] in "01" else one for one in given])

    def say_houses(self):
        silent = self.model.silent
        return " ".join(self.shown(name) + "?" * (name in silent) for name in sorted(self.model.tables)) or "-"

    def say_table(self, house):
        buckets = [(k, order) for k, order in enumerate(self.model.tables[house]) if order]
        return " ".join(f"{k}:" + ",".join(map(self.shown, order)) for k, order in buckets) or "-"

    def say_rest(self):
        fault = self.model.fault()
        return f"no {self.shown(fault[0])} {fault[1]}" if fault else "yes"

    def say_holes(self):
        return f"{len(self.model.holes())}"

    def say_seek(self, start, key):
        return self.model.seek(start, key) or "none"

    def say_ask(self, start, goal):
        return self.names(self.model.ask(start, goal)[1])

    def __getattr__(self, word):
        deed = getattr(self.model, word[len("say_"):])
        if word in ["say_go", "say_hush", "say_tide"]:
            return lambda *given: deed(*given) or "ok"
        return lambda *given: self.names(deed(*given))


class TestDrawnLines(unittest.TestCase):
    def line(self, draw, model, keys):
        houses, answering = sorted(model.tables), model.answering()
        word = draw.choice("come come come wake go hush tide houses table ask way lay lay seek rest holes".split())
        free = [name for name in [draw.getrandbits(model.wide)] if name not in houses]
        silent = [house for house in houses if house not in answering]
        pools = {"come": [free, answering], "wake": [silent, answering], "go": [houses], "hush": [houses],
                 "table": [houses], "ask": [answering, keys], "way": [answering, keys], "lay": [answering, keys],
                 "seek": [answering, keys]}.get(word, [])
        if word == "come" and (not answering or draw.randrange(6) == 0):
            pools = [free]
        if not all(pools):
            return None
        names = [format(draw.choice(pool), f"0{model.wide}b") for pool in pools]
        text = [draw.choice(["some", "other", "third"])] if word == "lay" else []
        return " ".join([word] + names + text)

    def test_as_the_law_says(self):
        for seed in range(60):
            draw = random.Random(seed)
            wide, room = draw.choice([1, 2, 3, 4, 5, 12]), draw.randint(1, 8)
            desk, teller = told(f"town {wide} {room}"), Teller(wide, room)
            keys = [draw.getrandbits(wide) for turn in range(3)]
            for turn in range(120):
                line = self.line(draw, teller.model, keys)
                if line is not None:
                    self.assertEqual(desk.say(line), teller.say(line), line)
            self.assertEqual(whole_market(desk.market), teller.model.whole())


if __name__ == "__main__":
    unittest.main()
