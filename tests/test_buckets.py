import random
import unittest

from helpers import Answers, never_asked
from nearnames.buckets import Bucket


def filled(room, names):
    bucket = Bucket(room)
    for name in names:
        bucket.hears(name, never_asked)
    return bucket


class TestHears(unittest.TestCase):
    def test_at_first_empty(self):
        for room in range(1, 9):
            self.assertEqual(Bucket(room).names(), [])

    def test_new_until_room_is_filled(self):
        for room in range(1, 9):
            bucket = Bucket(room)
            for name in range(room, 0, -1):
                self.assertEqual(bucket.hears(name, never_asked), "new")
            self.assertEqual(bucket.names(), list(range(room, 0, -1)))

    def test_nought_is_a_name_as_any(self):
        bucket = filled(2, [0])
        self.assertEqual(bucket.names(), [0])
        self.assertEqual(bucket.hears(0, never_asked), "again")
        self.assertEqual(bucket.hears(7, never_asked), "new")
        self.assertEqual(bucket.hears(9, Answers([0])), "full")
        self.assertEqual(bucket.names(), [7, 0])

    def test_again_goes_to_the_end_from_each_place(self):
        for room in range(1, 9):
            for many in range(1, room + 1):
                for place in range(many):
                    names = list(range(20, 20 + many))
                    bucket = filled(room, names)
                    heard = names[place]
                    self.assertEqual(bucket.hears(heard, never_asked), "again")
                    self.assertEqual(bucket.names(), names[:place] + names[place + 1:] + [heard])

    def test_full_when_the_first_answers(self):
        for room in range(1, 9):
            names = list(range(30, 30 + room))
            bucket = filled(room, names)
            answers = Answers([names[0]])
            self.assertEqual(bucket.hears(5, answers), "full")
            self.assertEqual(bucket.names(), names[1:] + [names[0]])
            self.assertEqual(answers.asked, [names[0]])

    def test_instead_when_the_first_does_not(self):
        for room in range(1, 9):
            names = list(range(30, 30 + room))
            bucket = filled(room, names)
            answers = Answers(names[1:] + [5])
            self.assertEqual(bucket.hears(5, answers), "instead")
            self.assertEqual(bucket.names(), names[1:] + [5])
            self.assertEqual(answers.asked, [names[0]])

    def test_the_first_in_order_is_asked_not_the_least(self):
        bucket = filled(3, [9, 1, 5])
        answers = Answers([1, 5])
        self.assertEqual(bucket.hears(2, answers), "instead")
        self.assertEqual(answers.asked, [9])
        self.assertEqual(bucket.names(), [1, 5, 2])

    def test_each_full_asks_the_one_that_is_first_then(self):
        bucket = filled(3, [1, 2, 3])
        answers = Answers([1, 2, 3])
        self.assertEqual([bucket.hears(name, answers) for name in [7, 8, 7, 9]], ["full"] * 4)
        self.assertEqual(answers.asked, [1, 2, 3, 1])
        self.assertEqual(bucket.names(), [2, 3, 1])

    def test_what_was_left_out_as_full_is_not_kept(self):
        bucket = filled(1, [1])
        self.assertEqual(bucket.hears(2, Answers([1])), "full")
        self.assertEqual(bucket.names(), [1])
        self.assertIs(bucket.drops(2), False)

    def test_what_was_left_out_instead_is_new_when_there_is_room(self):
        bucket = filled(1, [1])
        self.assertEqual(bucket.hears(2, Answers([])), "instead")
        self.assertIs(bucket.drops(1), False)
        self.assertIs(bucket.drops(2), True)
        self.assertEqual(bucket.hears(1, never_asked), "new")

    def test_a_name_heard_again_is_not_the_first_any_more(self):
        bucket = filled(3, [1, 2, 3])
        bucket.hears(1, never_asked)
        answers = Answers([])
        self.assertEqual(bucket.hears(4, answers), "instead")
        self.assertEqual(answers.asked, [2])
        self.assertEqual(bucket.names(), [3, 1, 4])

    def test_room_one_by_turns(self):
        bucket = Bucket(1)
        self.assertEqual(bucket.hears(4, never_asked), "new")
        self.assertEqual(bucket.hears(4, never_asked), "again")
        self.assertEqual(bucket.hears(6, Answers([4])), "full")
        self.assertEqual(bucket.hears(6, Answers([6])), "instead")
        self.assertEqual(bucket.hears(6, never_asked), "again")
        self.assertEqual(bucket.names(), [6])

    def test_room_eight_keeps_eight_not_nine(self):
        bucket = filled(8, [1, 2, 3, 4, 5, 6, 7, 8])
        self.assertEqual(bucket.hears(9, Answers([2, 3, 4, 5, 6, 7, 8])), "instead")
        self.assertEqual(bucket.names(), [2, 3, 4, 5, 6, 7, 8, 9])
        self.assertEqual(bucket.hears(1, Answers([2])), "full")
        self.assertEqual(bucket.names(), [3, 4, 5, 6, 7, 8, 9, 2])

    def test_long_names(self):
        great = 2 ** 60 - 1
        bucket = filled(2, [great, great - 1])
        self.assertEqual(bucket.hears(great, never_asked), "again")
        self.assertEqual(bucket.names(), [great - 1, great])


class TestDrops(unittest.TestCase):
    def test_true_for_kept_false_for_others(self):
        bucket = filled(3, [4, 5, 6])
        self.assertIs(bucket.drops(7), False)
        self.assertEqual(bucket.names(), [4, 5, 6])
        self.assertIs(bucket.drops(5), True)
        self.assertEqual(bucket.names(), [4, 6])
        self.assertIs(bucket.drops(5), False)
        self.assertEqual(bucket.names(), [4, 6])

    def test_of_an_empty_bucket(self):
        bucket = Bucket(1)
        self.assertIs(bucket.drops(0), False)
        self.assertEqual(bucket.names(), [])

    def test_each_place(self):
        names = [11, 3, 0, 8, 5, 2, 9, 1]
        for place in range(8):
            bucket = filled(8, names)
            self.assertIs(bucket.drops(names[place]), True)
            self.assertEqual(bucket.names(), names[:place] + names[place + 1:])

    def test_makes_room_at_the_end(self):
        bucket = filled(2, [4, 5])
        bucket.drops(4)
        self.assertEqual(bucket.hears(6, never_asked), "new")
        self.assertEqual(bucket.names(), [5, 6])
        bucket.drops(5)
        self.assertEqual(bucket.hears(5, never_asked), "new")
        self.assertEqual(bucket.names(), [6, 5])


class TestOwnLists(unittest.TestCase):
    def test_a_told_list_that_is_changed_changes_nothing(self):
        bucket = filled(3, [1, 2])
        told = bucket.names()
        self.assertIs(type(told), list)
        told.append(3)
        told[0] = 9
        self.assertEqual(bucket.names(), [1, 2])
        bucket.names().clear()
        self.assertEqual(bucket.names(), [1, 2])
        self.assertEqual(bucket.hears(3, never_asked), "new")

    def test_a_told_list_stays_as_it_was_told(self):
        bucket = filled(2, [1, 2])
        told = bucket.names()
        bucket.hears(1, never_asked)
        bucket.hears(3, Answers([]))
        bucket.hears(4, Answers([1]))
        bucket.drops(1)
        self.assertEqual(told, [1, 2])

    def test_buckets_share_nothing(self):
        one = filled(2, [1, 2])
        other = filled(2, [3])
        one.drops(1)
        self.assertEqual(one.names(), [2])
        self.assertEqual(other.names(), [3])
        self.assertEqual(Bucket(2).names(), [])


def follow(order, room, name, answering):
    """The bucket's law once more, told by itself: (word, order, asked)."""
    if name in order:
        return "again", [kept for kept in order if kept != name] + [name], []
    if len(order) < room:
        return "new", order + [name], []
    if order[0] in answering:
        return "full", order[1:] + order[:1], order[:1]
    return "instead", order[1:] + [name], order[:1]


class TestManyHearings(unittest.TestCase):
    def check_hearing(self, bucket, room, name, answering):
        ahead = bucket.names()
        answers = Answers(answering)
        word, order, asked = follow(ahead, room, name, answering)
        self.assertEqual(bucket.hears(name, answers), word)
        behind = bucket.names()
        self.assertEqual(behind, order)
        self.assertEqual(answers.asked, asked)
        self.assertLessEqual(len(behind), room)
        self.assertEqual(len(behind), len(set(behind)))
        for lost in set(ahead) - set(behind):
            self.assertNotIn(lost, answering)
        return word

    def test_none_that_answers_is_forgotten(self):
        for room in range(1, 9):
            draw = random.Random(room)
            bucket = Bucket(room)
            answering = set(range(0, 24, 2))
            words = []
            for turn in range(1500):
                words.append(self.check_hearing(bucket, room, draw.randrange(24), answering))
                if draw.randrange(5) == 0:
                    answering ^= {draw.randrange(24)}
                if draw.randrange(40) == 0:
                    name = draw.randrange(24)
                    kept = bucket.names()
                    self.assertIs(bucket.drops(name), name in kept)
                    self.assertEqual(bucket.names(), [other for other in kept if other != name])
            self.assertEqual(set(words), {"again", "new", "full", "instead"})

    def test_those_that_always_answer_stay_for_good(self):
        for room in range(1, 9):
            steady = list(range(room))
            bucket = filled(room, steady)
            answers = Answers(set(range(1000)))
            for name in range(100, 300):
                self.assertEqual(bucket.hears(name, answers), "full")
            self.assertEqual(sorted(bucket.names()), steady)

    def test_those_that_never_answer_give_way_one_by_one(self):
        bucket = filled(4, [0, 1, 2, 3])
        answers = Answers({1, 3})
        words = [bucket.hears(name, answers) for name in [10, 11, 12, 13]]
        self.assertEqual(words, ["instead", "full", "instead", "full"])
        self.assertEqual(bucket.names(), [10, 1, 12, 3])


if __name__ == "__main__":
    unittest.main()
