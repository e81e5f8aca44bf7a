"""Asks and ways: how a house finds others by what houses tell.

What houses tell is told by a function: handed a house, a goal and an asker, it tells a list of names,
or None where the house is silent.
"""

from nearnames.names import by_nearness, nearer


def asked(start, goal, room, tells):
    row = []
    seen = {}
    found = []
    house = start
    while house is not None:
        told = tells(house, goal, start)
        # The list may be the teller's own, and change behind the call: the row keeps a copy.
        row.append((house, None if told is None else list(told)))
        note_told(seen, start, house, told)
        found = standing(seen, goal, room)
        house = first_unasked(found, row)
    return (row, found)


def note_told(seen, start, house, told):
    # Each seen name is True until it is found silent; told once more, it stays as it was.
    if told is None:
        seen[house] = False
        return
    for name in told:
        if name != start:
            seen.setdefault(name, True)


def standing(seen, goal, room):
    return by_nearness(goal, [name for name in seen if seen[name]])[:room]


def first_unasked(names, row):
    done = [house for house, told in row]
    for name in names:
        if name not in done:
            return name
    return None


def way(start, goal, tells):
    houses = []
    here = start
    while here is not None:
        houses.append(here)
        here = goes_next(here, goal, tells)
    return houses


def goes_next(here, goal, tells):
    # The first that isn't silent decides: all behind it are still farther from the goal.
    for name in by_nearness(goal, tells(here, goal, here)):
        if tells(name, goal, here) is not None:
            return name if nearer(goal, name, here) else None
    return None
