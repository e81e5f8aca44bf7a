"""The desk: a market that is told lines, and answers each with a text."""

from nearnames.errors import NoLine, NoSize, NoTown
from nearnames.markets import Market
from nearnames.names import read, shown
from nearnames.rests import fault, holes

# Each line's first word, and what is wanted as the words behind it.
LINES = (
    ("town", "number", "number"),
    ("come", "name"),
    ("come", "name", "name"),
    ("wake", "name", "name"),
    ("go", "name"),
    ("hush", "name"),
    ("tide",),
    ("houses",),
    ("table", "name"),
    ("ask", "name", "name"),
    ("way", "name", "name"),
    ("lay", "name", "name", "text"),
    ("seek", "name", "name"),
    ("rest",),
    ("holes",),
)


def line_of(words):
    for line in LINES:
        if line[0] == words[0] and len(line) == len(words):
            return line
    raise NoLine("no line of the desk")


def read_words(line, words, wide):
    return [read_word(kind, word, wide) for kind, word in zip(line[1:], words[1:])]


def read_word(kind, word, wide):
    if kind == "name":
        return read(word, wide)
    if kind == "number":
        return read_number(word)
    return read_text(word)


def read_number(word):
    if not 1 <= len(word) <= 3 or not all(["0" <= sign <= "9" for sign in word]):
        raise NoSize("a number has one to three figures")
    if word[0] == "0" and word != "0":
        raise NoSize("a number has no 0 ahead")
    return int(word)


def read_text(word):
    if not 1 <= len(word) <= 20 or not all(["a" <= sign <= "z" for sign in word]):
        raise NoLine("a text has one to twenty small letters")
    return word


def told_parts(parts):
    return " ".join(parts) if len(parts) > 0 else "-"


def told_names(market, names):
    return told_parts([shown(name, market.wide) for name in names])


def say_come(market, given):
    door = given[1] if len(given) > 1 else None
    return told_names(market, market.come(given[0], door))


def say_wake(market, given):
    return told_names(market, market.wake(given[0], given[1]))


def say_go(market, given):
    market.go(given[0])
    return "ok"


def say_hush(market, given):
    market.hush(given[0])
    return "ok"


def say_tide(market, given):
    market.tide()
    return "ok"


def say_houses(market, given):
    return told_parts([told_house(market, house) for house in market.houses()])


def told_house(market, house):
    return shown(house, market.wide) + ("" if market.answers(house) else "?")


def say_table(market, given):
    buckets = [market.bucket(given[0], k) for k in range(market.wide)]
    return told_parts([told_bucket(market, k, names) for k, names in enumerate(buckets) if len(names) > 0])


def told_bucket(market, k, names):
    return f"{k}:" + ",".join([shown(name, market.wide) for name in names])


def say_ask(market, given):
    return told_names(market, market.ask(given[0], given[1])[1])


def say_way(market, given):
    return told_names(market, market.way(given[0], given[1]))


def say_lay(market, given):
    return told_names(market, market.lay(given[0], given[1], given[2]))


def say_seek(market, given):
    text = market.seek(given[0], given[1])
    return "none" if text is None else text


def say_rest(market, given):
    place = fault(market)
    if place is None:
        return "yes"
    return told_parts(["no", shown(place[0], market.wide), str(place[1])])


def say_holes(market, given):
    return str(len(holes(market)))


DEEDS = {
    "come": say_come,
    "wake": say_wake,
    "go": say_go,
    "hush": say_hush,
    "tide": say_tide,
    "houses": say_houses,
    "table": say_table,
    "ask": say_ask,
    "way": say_way,
    "lay": say_lay,
    "seek": say_seek,
    "rest": say_rest,
    "holes": say_holes,
}


class Desk:
    def __init__(self):
        self.market = None

    def say(self, line):
        if not isinstance(line, str):
            raise NoLine("a line is a text")
        words = line.split(" ")
        wanted = line_of(words)
        if words[0] == "town":
            return self.opens(read_words(wanted, words, None))
        if self.market is None:
            raise NoTown("there is no market yet")
        given = read_words(wanted, words, self.market.wide)
        deed = DEEDS[words[0]]
        return deed(self.market, given)

    def opens(self, given):
        # Where the market is refused, the elder one stays.
        self.market = Market(given[0], given[1])
        return "ok"
