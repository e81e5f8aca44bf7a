"""Tables: what one house keeps of the others, a bucket for each step from its own name."""

from nearnames.buckets import Bucket
from nearnames.names import by_nearness, step


class Table:
    def __init__(self, own, wide, room):
        self.own = own
        self.wide = wide
        self.room = room
        self.buckets = [Bucket(room) for k in range(wide)]

    def hears(self, name, answers):
        # There is no step from a name to itself, so no bucket is due.
        if name == self.own:
            return "own"
        return self.bucket_of(name).hears(name, answers)

    def drops(self, name):
        if name == self.own:
            return False
        return self.bucket_of(name).drops(name)

    def bucket_of(self, name):
        return self.buckets[step(self.own, name)]

    def bucket(self, k):
        return self.buckets[k].names()

    def keeps(self):
        names = []
        for bucket in self.buckets:
            names.extend(bucket.names())
        return sorted(names)

    def nearest(self, goal, many, but=None):
        # None is like no name, so without a name to leave out all stay.
        names = [name for name in self.keeps() if name != but]
        return by_nearness(goal, names)[:many]
