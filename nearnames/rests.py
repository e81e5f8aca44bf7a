"""Rest: when the tables of a town need nothing more, what is amiss else, and the tide that mends it."""

from nearnames.names import span


def fault(town):
    for house, k, kept, due in each_bucket(town):
        if not is_at_rest(town, kept, due):
            return (house, k)
    return None


def holes(town):
    return [(house, k) for house, k, kept, due in each_bucket(town) if is_hole(town, kept, due)]


def each_bucket(town):
    # Rising, as faults and holes are told.
    answering = town.answering()
    buckets = []
    for house in answering:
        for k in range(town.wide):
            buckets.append((house, k, town.bucket(house, k), of_span(answering, span(house, k))))
    return buckets


def of_span(names, ends):
    return [name for name in names if ends[0] <= name <= ends[1]]


def is_at_rest(town, kept, due):
    if not all([town.answers(name) for name in kept]):
        return False
    return len(kept) == town.room or all([name in kept for name in due])


def is_hole(town, kept, due):
    return len(due) > 0 and not any([town.answers(name) for name in kept])


def look_round(town, house):
    town.check_answering(house)
    town.drops_lost(house)
    # To look round is to visit by oneself as the door.
    return town.visits(house, house)


def tide(town):
    for house in town.answering():
        look_round(town, house)
