import random
import unittest

from nearnames.asks import asked, way


class Tells:
    """Tells what a dict holds, None of houses that it doesn't hold, and writes down each call."""

    def __init__(self, held):
        self.held = held
        self.calls = []

    def __call__(self, house, goal, asker):
        self.calls.append((house, goal, asker))
        return self.held.get(house)


class TestAsked(unittest.TestCase):
    def check(self, start, goal, room, held, row, found):
        tells = Tells(held)
        self.assertEqual(asked(start, goal, room, tells), (row, found))
        self.assertEqual(tells.calls, [(house, goal, start) for house, told in row])

    def test_kinds(self):
        answer = asked(0, 1, 2, Tells({0: [1, 2], 1: []}))
        self.assertIs(type(answer), tuple)
        row, found = answer
        self.assertEqual([type(row), type(found)], [list, list])
        self.assertEqual([type(entry) for entry in row], [tuple, tuple, tuple])
        self.assertEqual(row, [(0, [1, 2]), (1, []), (2, None)])
        self.assertEqual(found, [1])

    def test_a_start_that_tells_nothing(self):
        for start, goal in [(3, 5), (0, 0), (7, 7)]:
            self.check(start, goal, 2, {start: []}, [(start, [])], [])

    def test_a_start_that_tells_itself_alone(self):
        self.check(3, 3, 2, {3: [3, 3]}, [(3, [3, 3])], [])

    def test_one_that_tells_nothing_is_not_silent(self):
        self.check(3, 5, 2, {3: [4], 4: []}, [(3, [4]), (4, [])], [4])

    def test_told_twice_and_start_and_house_itself_told(self):
        held = {1: [2, 2, 1, 3], 2: [2, 1, 1, 3, 3], 3: [3]}
        row = [(1, [2, 2, 1, 3]), (2, [2, 1, 1, 3, 3]), (3, [3])]
        self.check(1, 0, 8, held, row, [2, 3])
        self.check(1, 0, 2, held, row, [2, 3])

    def test_start_never_stands_though_it_is_the_goal(self):
        self.check(6, 6, 1, {6: [7], 7: [6]}, [(6, [7]), (7, [6])], [7])

    def test_nought_is_a_name_as_any(self):
        self.check(1, 0, 1, {1: [0], 0: [1]}, [(1, [0]), (0, [1])], [0])
        self.check(0, 0, 1, {0: [1], 1: [0]}, [(0, [1]), (1, [0])], [1])
        self.check(1, 0, 1, {1: [0, 3], 3: [0]}, [(1, [0, 3]), (0, None), (3, [0])], [3])

    def test_farther_ones_come_to_stand_for_silent_ones(self):
        row = [(0, [10, 8, 9]), (8, None), (9, None), (10, [])]
        self.check(0, 8, 1, {0: [10, 8, 9], 10: []}, row, [10])
        row = [(0, [10, 8, 9, 12]), (8, []), (9, None), (10, [9])]
        self.check(0, 8, 2, {0: [10, 8, 9, 12], 8: [], 10: [9]}, row, [8, 10])

    def test_all_told_are_silent(self):
        self.check(0, 8, 2, {0: [10, 8, 9]}, [(0, [10, 8, 9]), (8, None), (9, None), (10, None)], [])

    def test_a_silent_one_told_again_is_not_asked_again_and_does_not_stand(self):
        row = [(0, [8, 9]), (8, None), (9, [8, 10, 8]), (10, [8])]
        self.check(0, 8, 2, {0: [8, 9], 9: [8, 10, 8], 10: [8]}, row, [9, 10])

    def test_one_that_does_not_stand_is_not_asked(self):
        # 2 stands at first; 4 and then 8 are nearer, so 1 never stands.
        held = {0: [1, 2], 2: [4], 4: [1, 8], 8: [0, 2], 1: [15]}
        self.check(0, 15, 2, held, [(0, [1, 2]), (2, [4]), (4, [1, 8]), (8, [0, 2])], [8, 4])

    def test_a_house_that_comes_to_stand_late(self):
        # 4 stands, is put out by 12, and stands again when 12 is found silent; it alone knows of 14.
        held = {0: [8, 4, 2], 8: [12], 4: [14], 14: []}
        self.check(0, 15, 2, held, [(0, [8, 4, 2]), (8, [12]), (12, None), (4, [14]), (14, [])], [14, 8])

    def test_a_house_that_comes_to_stand_behind_farther_ones(self):
        # 4 is farther than 8, but told and asked ahead of it.
        held = {0: [4], 4: [12, 8], 8: [4]}
        self.check(0, 15, 1, held, [(0, [4]), (4, [12, 8]), (12, None), (8, [4])], [8])

    def test_the_nearest_that_was_not_asked_is_asked(self):
        # 4 and 2 stand from the first on, but what 8 and 12 tell is nearer, so they wait.
        held = {0: [2, 4, 8], 8: [12], 12: [14], 14: [], 4: [], 2: []}
        row = [(0, [2, 4, 8]), (8, [12]), (12, [14]), (14, []), (4, []), (2, [])]
        self.check(0, 15, 8, held, row, [14, 12, 8, 4, 2])

    def test_room_one_follows_one_line(self):
        held = {0: [8, 12], 12: [14, 13], 14: [15, 12], 15: [0], 8: [], 13: []}
        row = [(0, [8, 12]), (12, [14, 13]), (14, [15, 12]), (15, [0])]
        self.check(0, 15, 1, held, row, [15])

    def test_room_eight_stands_eight_not_nine(self):
        names = list(range(1, 10))
        held = {name: [] for name in names}
        held[0] = names
        row = [(0, names)] + [(name, []) for name in range(1, 9)]
        self.check(0, 0, 8, held, row, [1, 2, 3, 4, 5, 6, 7, 8])

    def test_fewer_than_room(self):
        self.check(0, 7, 8, {0: [2, 1], 1: [4], 2: [], 4: []}, [(0, [2, 1]), (2, []), (1, [4]), (4, [])], [4, 2, 1])

    def test_found_is_by_nearness_not_by_the_row(self):
        self.check(0, 7, 3, {0: [1], 1: [2], 2: [4], 4: []}, [(0, [1]), (1, [2]), (2, [4]), (4, [])], [4, 2, 1])

    def test_long_names(self):
        great = 2 ** 60 - 1
        held = {0: [2 ** 59], 2 ** 59: [great - 1, 2 ** 58], great - 1: [great], great: [0]}
        row = [(0, [2 ** 59]), (2 ** 59, [great - 1, 2 ** 58]), (great - 1, [great]), (great, [0])]
        self.check(0, great, 2, held, row, [great, great - 1])


class TestAskedLists(unittest.TestCase):
    def test_what_was_told_is_not_changed(self):
        held = {0: [3, 1, 1, 0], 1: [2], 3: [], 2: []}
        asked(0, 3, 8, Tells(held))
        self.assertEqual(held, {0: [3, 1, 1, 0], 1: [2], 3: [], 2: []})

    def test_the_row_is_the_askers_own(self):
        held = {0: [1], 1: [0]}
        row, found = asked(0, 1, 2, Tells(held))
        row[0][1].append(9)
        row[1][1].clear()
        self.assertEqual(held, {0: [1], 1: [0]})
        self.assertEqual(found, [1])
        held[0].append(5)
        self.assertEqual(row, [(0, [1, 9]), (1, [])])

    def test_a_teller_that_tells_one_list_over_and_over(self):
        told = []
        held = {0: [1, 2], 1: [3], 2: [], 3: [0]}

        def tells(house, goal, asker):
            told.clear()
            told.extend(held[house])
            return told

        row, found = asked(0, 3, 3, tells)
        told.append(99)
        self.assertEqual(row, [(0, [1, 2]), (2, []), (1, [3]), (3, [0])])
        self.assertEqual(found, [3, 2, 1])

    def test_found_is_no_list_of_the_row(self):
        row, found = asked(0, 1, 1, Tells({0: [1], 1: []}))
        found.append(7)
        self.assertEqual(row, [(0, [1]), (1, [])])

    def test_the_same_again(self):
        held = {0: [1, 2], 1: [3], 2: [], 3: [0]}
        first = asked(0, 3, 3, Tells(held))
        first[0].clear()
        first[1].clear()
        self.assertEqual(asked(0, 3, 3, Tells(held)), ([(0, [1, 2]), (2, []), (1, [3]), (3, [0])], [3, 2, 1]))


def drawn_tells(draw, wide):
    """What some houses tell: each name of wide tells some, or is silent; 0 never is."""
    held = {}
    for house in range(2 ** wide):
        if house == 0 or draw.randrange(4):
            held[house] = [draw.getrandbits(wide) for turn in range(draw.randrange(6))]
    return Tells(held)


def follow_ask(start, goal, room, tells):
    """The law of asks once more, told by itself from the row alone."""
    row = [(start, tells(start, goal, start))]
    while True:
        seen = {name for house, told in row if told is not None for name in told} - {start}
        silent = {house for house, told in row if told is None}
        stand = sorted(seen - silent, key=lambda name: name ^ goal)[:room]
        waiting = [name for name in stand if name not in [house for house, told in row]]
        if not waiting:
            return row, stand
        row.append((waiting[0], tells(waiting[0], goal, start)))


class TestDrawnAsks(unittest.TestCase):
    def test_as_the_law_says(self):
        for seed in range(300):
            draw = random.Random(seed)
            tells = drawn_tells(draw, 5)
            goal, room = draw.getrandbits(5), draw.randint(1, 8)
            row, found = asked(0, goal, room, tells)
            self.assertEqual(tells.calls, [(house, goal, 0) for house, told in row])
            self.assertEqual((row, found), follow_ask(0, goal, room, Tells(tells.held)))
            self.assertEqual(len(row), len({house for house, told in row}))


class TestWay(unittest.TestCase):
    def check(self, start, goal, held, houses, calls):
        tells = Tells(held)
        told = way(start, goal, tells)
        self.assertIs(type(told), list)
        self.assertEqual(told, houses)
        self.assertEqual(tells.calls, [(house, goal, asker) for house, asker in calls])

    def test_one_house_that_tells_nothing(self):
        for start, goal in [(3, 5), (0, 0), (0, 7)]:
            self.check(start, goal, {start: []}, [start], [(start, start)])

    def test_one_that_is_farther(self):
        self.check(6, 7, {6: [1], 1: [7]}, [6], [(6, 6), (1, 6)])

    def test_the_first_that_is_not_silent_is_farther(self):
        # 7 is nearer but silent, 5 is farther than 6; 4 isn't asked any more.
        self.check(6, 7, {6: [4, 5, 7], 5: [], 4: []}, [6], [(6, 6), (7, 6), (5, 6)])

    def test_where_it_is_itself(self):
        self.check(6, 7, {6: [6]}, [6], [(6, 6), (6, 6)])
        self.check(6, 7, {6: [5, 6, 7], 5: []}, [6], [(6, 6), (7, 6), (6, 6)])

    def test_all_silent(self):
        self.check(0, 7, {0: [1, 4, 6]}, [0], [(0, 0), (6, 0), (4, 0), (1, 0)])

    def test_silent_ones_are_passed_over(self):
        self.check(0, 7, {0: [1, 4, 6], 1: []}, [0, 1], [(0, 0), (6, 0), (4, 0), (1, 0), (1, 1)])

    def test_of_several_nearer_ones_the_nearest(self):
        self.check(0, 7, {0: [1, 4, 6], 6: [], 4: [], 1: []}, [0, 6], [(0, 0), (6, 0), (6, 6)])

    def test_several_steps(self):
        held = {0: [1, 8], 8: [12, 0], 12: [14, 8], 14: [15, 12], 15: [14]}
        calls = [(0, 0), (8, 0), (8, 8), (12, 8), (12, 12), (14, 12), (14, 14), (15, 14), (15, 15), (14, 15)]
        self.check(0, 15, held, [0, 8, 12, 14, 15], calls)

    def test_told_twice_is_asked_once(self):
        self.check(0, 7, {0: [6, 1, 6, 1], 1: []}, [0, 1], [(0, 0), (6, 0), (1, 0), (1, 1)])

    def test_one_that_tells_nothing_is_gone_to(self):
        self.check(0, 7, {0: [4], 4: []}, [0, 4], [(0, 0), (4, 0), (4, 4)])

    def test_from_the_goal_itself(self):
        self.check(7, 7, {7: [0, 6], 6: [7]}, [7], [(7, 7), (6, 7)])

    def test_to_nought(self):
        self.check(1, 0, {1: [0, 3], 0: [1], 3: []}, [1, 0], [(1, 1), (0, 1), (0, 0), (1, 0)])
        self.check(0, 3, {0: [2], 2: [0]}, [0, 2], [(0, 0), (2, 0), (2, 2), (0, 2)])

    def test_nearness_not_difference(self):
        # To 8 the way from 7 is as far as it can be; 0 is nearer to 8 than 7 is.
        self.check(7, 8, {7: [0], 0: []}, [7, 0], [(7, 7), (0, 7), (0, 0)])
        self.check(0, 8, {0: [7], 7: []}, [0], [(0, 0), (7, 0)])

    def test_what_was_told_is_not_changed(self):
        held = {0: [1, 4, 1, 0], 4: [0, 6], 6: []}
        told = way(0, 7, Tells(held))
        told.clear()
        self.assertEqual(held, {0: [1, 4, 1, 0], 4: [0, 6], 6: []})
        self.assertEqual(way(0, 7, Tells(held)), [0, 4, 6])

    def test_a_teller_that_tells_one_list_over_and_over(self):
        told = []
        held = {0: [1, 4, 2], 4: [0, 6], 6: [2]}

        def tells(house, goal, asker):
            if house not in held:
                return None
            told.clear()
            told.extend(held[house])
            return told

        self.assertEqual(way(0, 7, tells), [0, 4, 6])

    def test_drawn(self):
        for seed in range(300):
            draw = random.Random(seed)
            tells = drawn_tells(draw, 5)
            goal = draw.getrandbits(5)
            calls, houses, here = [], [], 0
            while here is not None:
                houses.append(here)
                told = sorted(set(tells.held[here]), key=lambda name: name ^ goal)
                first = next((place for place, name in enumerate(told) if name in tells.held), len(told))
                calls += [(here, goal, here)] + [(name, goal, here) for name in told[:first + 1]]
                onward = told[first:first + 1]
                here = onward[0] if onward and onward[0] ^ goal < here ^ goal else None
            self.assertEqual(way(0, goal, tells), houses)
            self.assertEqual(tells.calls, calls)


if __name__ == "__main__":
    unittest.main()
