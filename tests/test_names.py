import random
import unittest

from helpers import Unlike, deep_list
from nearnames.errors import NoName
from nearnames.names import by_nearness, far, is_name, nearer, read, shown, span, step

WIDES = list(range(1, 61))


def drawn_names(seed, wide, many):
    draw = random.Random(seed)
    return [draw.getrandbits(wide) for turn in range(many)]


class TestIsName(unittest.TestCase):
    def test_least_and_greatest_of_every_wide(self):
        for wide in WIDES:
            with self.subTest(wide):
                self.assertIs(is_name(0, wide), True)
                self.assertIs(is_name(2 ** wide - 1, wide), True)
                self.assertIs(is_name(2 ** wide, wide), False)
                self.assertIs(is_name(-1, wide), False)

    def test_all_of_a_small_wide(self):
        told = [thing for thing in range(-20, 40) if is_name(thing, 3)]
        self.assertEqual(told, [0, 1, 2, 3, 4, 5, 6, 7])

    def test_far_beyond(self):
        for thing in [-(2 ** 60), -2, 2 ** 60 + 1, 10 ** 59, -(10 ** 59), 10 ** 5000]:
            self.assertIs(is_name(thing, 60), False)

    def test_truths_are_no_names(self):
        for wide in [1, 2, 60]:
            self.assertIs(is_name(True, wide), False)
            self.assertIs(is_name(False, wide), False)

    def test_other_kinds_are_no_names(self):
        things = ["", "0", "1", "01", None, [], [0], (), (1,), {}, {0: 1}, 0.0, 1.0, 0.5, float("nan"), 1j, b"", b"1",
                  {1}, frozenset(), object(), int, len, Unlike(), deep_list()]
        for thing in things:
            for wide in [1, 60]:
                self.assertIs(is_name(thing, wide), False)


class TestShownAndRead(unittest.TestCase):
    def test_written_signs(self):
        self.assertEqual(shown(0, 1), "0")
        self.assertEqual(shown(1, 1), "1")
        self.assertEqual(shown(6, 3), "110")
        self.assertEqual(shown(6, 8), "00000110")
        self.assertEqual(shown(0, 60), "0" * 60)
        self.assertEqual(shown(1, 60), "0" * 59 + "1")
        self.assertEqual(shown(2 ** 59, 60), "1" + "0" * 59)
        self.assertEqual(shown(2 ** 60 - 1, 60), "1" * 60)

    def test_read_signs(self):
        self.assertEqual(read("0", 1), 0)
        self.assertEqual(read("1", 1), 1)
        self.assertEqual(read("110", 3), 6)
        self.assertEqual(read("00000110", 8), 6)
        self.assertEqual(read("0" * 60, 60), 0)
        self.assertEqual(read("1" + "0" * 59, 60), 2 ** 59)
        self.assertEqual(read("1" * 60, 60), 2 ** 60 - 1)

    def check_both_ways(self, name, wide):
        text = shown(name, wide)
        self.assertIs(type(text), str)
        self.assertEqual(text, bin(name)[2:].rjust(wide, "0"))
        self.assertEqual(len(text), wide)
        back = read(text, wide)
        self.assertIs(type(back), int)
        self.assertEqual(back, name)

    def test_all_names_of_small_wides(self):
        for wide in range(1, 9):
            for name in range(2 ** wide):
                self.check_both_ways(name, wide)

    def test_names_of_every_wide(self):
        for wide in WIDES:
            for name in [0, 1, 2 ** wide - 1, 2 ** wide - 2, 2 ** (wide - 1)] + drawn_names(wide, wide, 20):
                self.check_both_ways(name, wide)

    def check_refused(self, thing, wide):
        with self.assertRaises(NoName):
            read(thing, wide)

    def test_too_short_too_long_and_empty(self):
        for wide in WIDES:
            for long in [0, 1, wide - 1, wide + 1, 2 * wide, 2000]:
                if long != wide:
                    self.check_refused("0" * long, wide)
                    self.check_refused("1" * long, wide)

    def test_leading_noughts_do_not_make_up_for_length(self):
        self.check_refused("0110", 3)
        self.check_refused("10", 3)

    def test_other_signs_at_each_place(self):
        for wide in [1, 2, 3, 8, 60]:
            for place in range(wide):
                for sign in " 23456789-+_.,abOolIxB~!/\t\n\r\x00":
                    for rest in "01":
                        text = rest * place + sign + rest * (wide - place - 1)
                        with self.subTest(text):
                            self.check_refused(text, wide)

    def test_figures_of_other_scripts(self):
        for text in ["\uff10\uff11", "\u0660\u0661", "\u00b9\u00b2", "1\u0660"]:
            self.check_refused(text, 2)

    def test_what_python_would_read_as_a_number(self):
        for text in ["0b1", "0B0", "+01", "-01", "1_0", " 01", "01 ", " 1 ", "01\n", "\t01", "-00"]:
            self.check_refused(text, 3)
            self.check_refused(text, len(text))

    def test_blanks_around_a_name(self):
        for text in [" 0110", "0110 ", "0110\n", "01 10"]:
            self.check_refused(text, 4)
            self.check_refused(text, 5)

    def test_what_is_no_text(self):
        things = [0, 1, 10, -1, 2 ** 60, 10 ** 5000, True, False, None, [], ["0", "1"], (), ("0", "1"), ("01",), {},
                  {"0": 1, "1": 0}, {"01": 1}, 0.0, 1.5, b"01", bytearray(b"01"), {"0", "1"}, object(), str, len, Unlike(),
                  deep_list()]
        for thing in things:
            for wide in [1, 2, 60]:
                self.check_refused(thing, wide)

    def test_a_list_of_signs_stays_as_it_was(self):
        signs = ["0", "1"]
        self.check_refused(signs, 2)
        self.assertEqual(signs, ["0", "1"])


class TestFar(unittest.TestCase):
    def test_known(self):
        self.assertEqual(far(0, 0), 0)
        self.assertEqual(far(0b1100, 0b1010), 0b0110)
        self.assertEqual(far(0, 2 ** 60 - 1), 2 ** 60 - 1)
        self.assertEqual(far(2 ** 59, 2 ** 59 - 1), 2 ** 60 - 1)
        self.assertEqual(far(2 ** 60 - 1, 2 ** 60 - 2), 1)

    def test_figures_are_one_just_where_unlike(self):
        for one in range(32):
            for other in range(32):
                signs = ["1" if a != b else "0" for a, b in zip(shown(one, 5), shown(other, 5))]
                self.assertEqual(far(one, other), read("".join(signs), 5))
                self.assertIs(type(far(one, other)), int)

    def test_both_ways_alike_and_nought_of_itself_alone(self):
        names = [0, 1, 2 ** 59, 2 ** 60 - 1] + drawn_names(5, 60, 40)
        for one in names:
            for other in names:
                self.assertEqual(far(one, other), far(other, one))
                self.assertEqual(far(one, other) == 0, one == other)


class TestNearer(unittest.TestCase):
    def test_known(self):
        self.assertIs(nearer(0, 1, 2), True)
        self.assertIs(nearer(0, 2, 1), False)
        # By likeness 8 is farther from 7 than 0 is, whatever their difference.
        self.assertIs(nearer(7, 0, 8), True)
        self.assertIs(nearer(7, 8, 0), False)
        self.assertIs(nearer(2 ** 60 - 1, 2 ** 59, 2 ** 59 - 1), True)

    def test_the_goal_itself_is_nearest(self):
        self.assertIs(nearer(5, 5, 4), True)
        self.assertIs(nearer(5, 4, 5), False)
        self.assertIs(nearer(5, 5, 5), False)

    def test_never_both_ways_and_one_of_them_for_unlike_names(self):
        for goal in range(8):
            for one in range(8):
                for other in range(8):
                    there = nearer(goal, one, other)
                    back = nearer(goal, other, one)
                    self.assertIs(type(there), bool)
                    self.assertEqual(there, far(one, goal) < far(other, goal))
                    self.assertEqual([there, back].count(True), 0 if one == other else 1)

    def test_long_names_that_differ_late(self):
        goal = 2 ** 60 - 1
        self.assertIs(nearer(goal, goal - 2 ** 58 - 1, goal - 2 ** 58 - 2), True)
        self.assertIs(nearer(goal, goal - 2 ** 58 - 2, goal - 2 ** 58 - 1), False)


class TestByNearness(unittest.TestCase):
    def test_none_and_one(self):
        self.assertEqual(by_nearness(3, []), [])
        self.assertEqual(by_nearness(3, [0]), [0])
        self.assertEqual(by_nearness(3, [3]), [3])

    def test_known(self):
        self.assertEqual(by_nearness(5, [0, 1, 2, 3, 4, 5, 6, 7]), [5, 4, 7, 6, 1, 0, 3, 2])
        self.assertEqual(by_nearness(0, [2, 8, 1]), [1, 2, 8])
        self.assertEqual(by_nearness(7, [8, 0, 15, 6]), [6, 0, 15, 8])

    def test_each_once(self):
        self.assertEqual(by_nearness(2, [2, 2]), [2])
        self.assertEqual(by_nearness(0, [3, 1, 3, 1, 1, 0, 3]), [0, 1, 3])
        self.assertEqual(by_nearness(0, [0, 1, 1, 2]), [0, 1, 2])

    def test_goal_among_them_is_first(self):
        self.assertEqual(by_nearness(6, [1, 6, 7]), [6, 7, 1])

    def test_goal_not_among_them_is_not_told(self):
        self.assertNotIn(6, by_nearness(6, [1, 5, 7]))

    def test_many_drawn(self):
        for seed in range(60):
            wide = WIDES[seed]
            names = drawn_names(seed, wide, 100)
            names = names + names[::-2]
            goal = drawn_names(seed + 1000, wide, 1)[0]
            told = by_nearness(goal, names)
            self.assertEqual(sorted(told), sorted(set(names)))
            for ahead, behind in zip(told, told[1:]):
                self.assertLess(ahead ^ goal, behind ^ goal)

    def test_order_handed_in_makes_no_difference(self):
        names = drawn_names(9, 60, 200)
        told = by_nearness(names[3], names)
        for turn in range(20):
            random.Random(turn).shuffle(names)
            self.assertEqual(by_nearness(told[0], names), told)

    def test_new_list_and_the_handed_one_stays(self):
        for given in [[], [4], [0, 1, 2], [2, 1, 0], [3, 3, 1]]:
            names = list(given)
            told = by_nearness(0, names)
            self.assertIs(type(told), list)
            self.assertIsNot(told, names)
            told.append(99)
            self.assertEqual(names, given)

    def test_told_lists_are_each_their_own(self):
        names = [2, 1]
        first = by_nearness(0, names)
        first.clear()
        names.append(3)
        self.assertEqual(by_nearness(0, [2, 1]), [1, 2])
        self.assertEqual(first, [])
        self.assertIsNot(by_nearness(0, []), by_nearness(0, []))


class TestStep(unittest.TestCase):
    def test_unlike_at_the_last_sign_alone(self):
        for wide in WIDES:
            self.assertEqual(step(0, 1), 0)
            self.assertEqual(step(2 ** wide - 1, 2 ** wide - 2), 0)

    def test_unlike_at_the_first_sign(self):
        for wide in WIDES:
            half = 2 ** (wide - 1)
            self.assertEqual(step(0, half), wide - 1)
            self.assertEqual(step(0, 2 * half - 1), wide - 1)
            self.assertEqual(step(half, half - 1), wide - 1)

    def test_greatest_power_not_above(self):
        for k in range(60):
            for apart in [2 ** k, 2 ** k + (2 ** k) // 2, 2 ** (k + 1) - 1]:
                for name in [0, 2 ** 60 - 1] + drawn_names(k, 60, 5):
                    told = step(name, name ^ apart)
                    self.assertIs(type(told), int)
                    self.assertEqual(told, k)
                    self.assertEqual(step(name ^ apart, name), k)

    def test_signs_alike_ahead_and_unlike_at_it(self):
        for one in range(32):
            for other in range(32):
                if one != other:
                    place = 5 - 1 - step(one, other)
                    self.assertEqual(shown(one, 5)[:place], shown(other, 5)[:place])
                    self.assertNotEqual(shown(one, 5)[place], shown(other, 5)[place])


class TestSpan(unittest.TestCase):
    def test_known(self):
        self.assertEqual(span(0b1010, 0), (0b1011, 0b1011))
        self.assertEqual(span(0b1010, 1), (0b1000, 0b1001))
        self.assertEqual(span(0b1010, 2), (0b1100, 0b1111))
        self.assertEqual(span(0b1010, 3), (0b0000, 0b0111))

    def test_is_a_tuple_of_whole_numbers(self):
        told = span(5, 2)
        self.assertIs(type(told), tuple)
        self.assertEqual([type(edge) for edge in told], [int, int])

    def test_step_nought_is_the_one_neighbour(self):
        self.assertEqual(span(0, 0), (1, 1))
        self.assertEqual(span(1, 0), (0, 0))
        self.assertEqual(span(2 ** 60 - 1, 0), (2 ** 60 - 2, 2 ** 60 - 2))

    def test_greatest_step_is_the_other_half(self):
        for wide in WIDES:
            half = 2 ** (wide - 1)
            self.assertEqual(span(0, wide - 1), (half, 2 * half - 1))
            self.assertEqual(span(half - 1, wide - 1), (half, 2 * half - 1))
            self.assertEqual(span(half, wide - 1), (0, half - 1))
            self.assertEqual(span(2 * half - 1, wide - 1), (0, half - 1))

    def test_just_the_names_of_that_step(self):
        for wide in range(1, 7):
            for name in range(2 ** wide):
                for k in range(wide):
                    of_step = [other for other in range(2 ** wide) if other != name and step(name, other) == k]
                    low, high = span(name, k)
                    self.assertEqual(list(range(low, high + 1)), of_step)

    def test_edges_of_long_names(self):
        for k in range(60):
            for name in [0, 2 ** 60 - 1] + drawn_names(k, 60, 10):
                low, high = span(name, k)
                self.assertEqual(high - low + 1, 2 ** k)
                self.assertEqual([step(name, low), step(name, high)], [k, k])
                self.assertTrue(is_name(low, 60) and is_name(high, 60))


if __name__ == "__main__":
    unittest.main()
