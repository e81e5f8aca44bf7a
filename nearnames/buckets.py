"""Buckets: the few names that a house keeps of one step, in the order in which it heard of them."""


class Bucket:
    def __init__(self, room):
        self.room = room
        self.order = []

    def hears(self, name, answers):
        if name in self.order:
            self.order.remove(name)
            self.order.append(name)
            return "again"
        if len(self.order) < self.room:
            self.order.append(name)
            return "new"
        return self.hears_when_full(name, answers)

    def hears_when_full(self, name, answers):
        # An elder house that answers is worth more than a new one, which may soon be gone.
        first = self.order[0]
        if answers(first):
            self.order = self.order[1:] + [first]
            return "full"
        self.order = self.order[1:] + [name]
        return "instead"

    def drops(self, name):
        if name not in self.order:
            return False
        self.order.remove(name)
        return True

    def names(self):
        return list(self.order)
