import random
import unittest

from helpers import Answers, never_asked
from nearnames.buckets import Bucket
from nearnames.tables import Table

GREAT = 2 ** 60 - 1


def filled(own, wide, room, names):
    table = Table(own, wide, room)
    for name in names:
        table.hears(name, never_asked)
    return table


def all_buckets(table):
    return [table.bucket(k) for k in range(table.wide)]


class TestMaking(unittest.TestCase):
    def test_values(self):
        for own, wide, room in [(0, 1, 1), (1, 1, 8), (5, 4, 3), (GREAT, 60, 8)]:
            table = Table(own, wide, room)
            self.assertEqual((table.own, table.wide, table.room), (own, wide, room))

    def test_at_first_empty(self):
        for wide in [1, 2, 60]:
            table = Table(0, wide, 8)
            self.assertEqual(all_buckets(table), [[]] * wide)
            self.assertEqual(table.keeps(), [])
            self.assertEqual(table.nearest(0, 8), [])

    def test_tables_share_nothing(self):
        one = filled(0, 4, 2, [1, 2])
        other = filled(0, 4, 2, [3])
        one.drops(1)
        self.assertEqual(one.keeps(), [2])
        self.assertEqual(other.keeps(), [3])
        self.assertEqual(Table(0, 4, 2).keeps(), [])


class TestHears(unittest.TestCase):
    def test_wide_one(self):
        for own in [0, 1]:
            table = Table(own, 1, 1)
            self.assertEqual(table.hears(1 - own, never_asked), "new")
            self.assertEqual(table.bucket(0), [1 - own])
            self.assertEqual(table.hears(1 - own, never_asked), "again")
            self.assertEqual(table.keeps(), [1 - own])

    def test_the_bucket_of_each_step(self):
        table = filled(0b1010, 4, 8, range(16))
        self.assertEqual(table.bucket(0), [0b1011])
        self.assertEqual(table.bucket(1), [0b1000, 0b1001])
        self.assertEqual(table.bucket(2), [0b1100, 0b1101, 0b1110, 0b1111])
        self.assertEqual(table.bucket(3), [0, 1, 2, 3, 4, 5, 6, 7])

    def test_each_step_of_wide_sixty(self):
        for own in [0, GREAT, 2 ** 59, 123456789012345678]:
            table = Table(own, 60, 2)
            for k in range(60):
                self.assertEqual(table.hears(own ^ (2 ** k), never_asked), "new")
                if k:
                    self.assertEqual(table.hears(own ^ (2 ** (k + 1) - 1), never_asked), "new")
            self.assertEqual(table.bucket(0), [own ^ 1])
            for k in range(1, 60):
                self.assertEqual(table.bucket(k), [own ^ (2 ** k), own ^ (2 ** (k + 1) - 1)])

    def test_of_its_own_name_it_hears_nothing(self):
        for own, wide in [(0, 1), (1, 1), (0, 4), (9, 4), (0, 60), (GREAT, 60)]:
            table = Table(own, wide, 1)
            self.assertEqual(table.hears(own, never_asked), "own")
            self.assertEqual(table.keeps(), [])
            table.hears(own ^ 1, never_asked)
            self.assertEqual(table.hears(own, never_asked), "own")
            self.assertEqual(all_buckets(table), [[own ^ 1]] + [[]] * (wide - 1))

    def test_the_words_of_the_bucket_are_handed_on(self):
        table = Table(0, 4, 2)
        self.assertEqual(table.hears(8, never_asked), "new")
        self.assertEqual(table.hears(9, never_asked), "new")
        self.assertEqual(table.hears(8, never_asked), "again")
        self.assertEqual(table.bucket(3), [9, 8])
        answers = Answers([9])
        self.assertEqual(table.hears(12, answers), "full")
        self.assertEqual(answers.asked, [9])
        self.assertEqual(table.bucket(3), [8, 9])
        answers = Answers([9, 12])
        self.assertEqual(table.hears(12, answers), "instead")
        self.assertEqual(answers.asked, [8])
        self.assertEqual(table.bucket(3), [9, 12])

    def test_a_full_bucket_leaves_the_others_alone(self):
        table = filled(0, 4, 1, [8, 4])
        self.assertEqual(table.hears(2, never_asked), "new")
        self.assertEqual(table.hears(9, Answers([8])), "full")
        self.assertEqual(table.hears(5, Answers([8])), "instead")
        self.assertEqual(all_buckets(table), [[], [2], [5], [8]])

    def test_room_is_that_of_each_bucket(self):
        for room in range(1, 9):
            table = filled(0, 6, room, range(32, 32 + room))
            self.assertEqual(table.hears(60, Answers([32])), "full")
            self.assertEqual(len(table.bucket(5)), room)
            table = filled(0, 6, room, range(16, 16 + room))
            self.assertEqual(table.hears(31, Answers([])), "instead")
            self.assertEqual(table.bucket(4), list(range(17, 16 + room)) + [31])


class TestDrops(unittest.TestCase):
    def test_true_for_kept_false_for_others(self):
        table = filled(0, 4, 2, [8, 9, 1])
        self.assertIs(table.drops(10), False)
        self.assertIs(table.drops(2), False)
        self.assertIs(table.drops(8), True)
        self.assertIs(table.drops(8), False)
        self.assertEqual(all_buckets(table), [[1], [], [], [9]])

    def test_its_own_name_is_not_dropped(self):
        for own, wide in [(0, 1), (1, 1), (0, 4), (9, 4), (0, 60), (GREAT, 60)]:
            table = Table(own, wide, 2)
            self.assertIs(table.drops(own), False)
            table.hears(own ^ 1, never_asked)
            self.assertIs(table.drops(own), False)
            self.assertEqual(table.keeps(), [own ^ 1])

    def test_what_was_dropped_is_new_again(self):
        table = filled(0, 4, 1, [8])
        table.drops(8)
        self.assertEqual(table.hears(9, never_asked), "new")
        self.assertEqual(table.keeps(), [9])


class TestKeeps(unittest.TestCase):
    def test_rising_over_all_buckets(self):
        # From 8 the buckets of greater steps hold the lesser names, and each is in the order of hearing.
        table = filled(8, 4, 4, [7, 0, 3, 15, 12, 10, 11, 9])
        self.assertEqual(all_buckets(table), [[9], [10, 11], [15, 12], [7, 0, 3]])
        self.assertEqual(table.keeps(), [0, 3, 7, 9, 10, 11, 12, 15])

    def test_drawn(self):
        for seed in range(20):
            draw = random.Random(seed)
            own = draw.getrandbits(60)
            names = [own ^ draw.getrandbits(draw.randint(1, 60)) for turn in range(40)]
            table = Table(own, 60, 8)
            for name in names:
                table.hears(name, Answers(names))
            kept = [name for k in range(60) for name in table.bucket(k)]
            self.assertEqual(table.keeps(), sorted(kept))
            self.assertEqual(len(kept), len(set(kept)))
            self.assertTrue(set(kept) <= set(names) - {own})


class TestNearest(unittest.TestCase):
    def setUp(self):
        self.table = filled(0, 4, 8, [12, 1, 8, 5, 3, 2])

    def test_none_of_many_nought(self):
        self.assertEqual(self.table.nearest(6, 0), [])
        self.assertEqual(self.table.nearest(6, 0, 5), [])

    def test_fewer_than_it_keeps(self):
        self.assertEqual(self.table.nearest(6, 1), [5])
        self.assertEqual(self.table.nearest(6, 3), [5, 2, 3])
        self.assertEqual(self.table.nearest(9, 2), [8, 12])

    def test_just_as_many_and_more_than_it_keeps(self):
        for many in [6, 7, 100]:
            self.assertEqual(self.table.nearest(6, many), [5, 2, 3, 1, 12, 8])

    def test_but_one_that_it_keeps(self):
        self.assertEqual(self.table.nearest(6, 3, 5), [2, 3, 1])
        self.assertEqual(self.table.nearest(6, 2, 2), [5, 3])
        self.assertEqual(self.table.nearest(6, 100, 8), [5, 2, 3, 1, 12])
        self.assertEqual(self.table.nearest(6, 3, but=3), [5, 2, 1])

    def test_but_one_that_it_does_not_keep(self):
        for name in [0, 4, 15]:
            self.assertEqual(self.table.nearest(6, 3, name), [5, 2, 3])

    def test_but_none(self):
        self.assertEqual(self.table.nearest(6, 3, None), [5, 2, 3])
        self.assertEqual(self.table.nearest(6, 3, but=None), [5, 2, 3])

    def test_nought_is_a_name_as_any(self):
        table = filled(4, 3, 8, [0, 1])
        self.assertEqual(table.nearest(0, 8), [0, 1])
        self.assertEqual(table.nearest(0, 8, 0), [1])
        self.assertEqual(table.nearest(0, 8, None), [0, 1])

    def test_goal_is_kept_or_own(self):
        self.assertEqual(self.table.nearest(5, 2), [5, 1])
        self.assertEqual(self.table.nearest(0, 8), [1, 2, 3, 5, 8, 12])

    def test_it_changes_nothing(self):
        buckets = all_buckets(self.table)
        self.table.nearest(6, 3, 5)
        self.assertEqual(all_buckets(self.table), buckets)

    def test_drawn(self):
        for seed in range(30):
            draw = random.Random(seed)
            table = Table(draw.getrandbits(8), 8, 8)
            for turn in range(40):
                table.hears(draw.getrandbits(8), Answers(range(256)))
            for goal in range(256):
                but = draw.getrandbits(8)
                many = draw.randrange(12)
                rest = [name for name in table.keeps() if name != but]
                self.assertEqual(table.nearest(goal, many, but), sorted(rest, key=lambda name: name ^ goal)[:many])


class TestOwnLists(unittest.TestCase):
    def test_changed_lists_change_nothing(self):
        table = filled(0, 4, 3, [8, 9, 1])
        for told in [lambda: table.bucket(3), lambda: table.bucket(1), table.keeps, lambda: table.nearest(0, 8)]:
            ahead = told()
            self.assertIs(type(ahead), list)
            changed = told()
            changed.append(10)
            changed[0] = 15
            self.assertEqual(told(), ahead)
        self.assertEqual(all_buckets(table), [[1], [], [], [8, 9]])
        self.assertEqual(table.hears(10, never_asked), "new")

    def test_told_lists_stay_as_they_were_told(self):
        table = filled(0, 4, 2, [8, 9])
        bucket, keeps, nearest = table.bucket(3), table.keeps(), table.nearest(9, 2)
        table.hears(8, never_asked)
        table.hears(10, Answers([]))
        table.drops(8)
        self.assertEqual((bucket, keeps, nearest), ([8, 9], [8, 9], [9, 8]))

    def test_a_bucket_is_a_list_not_a_bucket(self):
        self.assertNotIsInstance(Table(0, 2, 2).bucket(1), Bucket)


if __name__ == "__main__":
    unittest.main()
