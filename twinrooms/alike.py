"""Rooms alike: matchings, and the rounds that part rooms."""

from twinrooms.halls import colours_of, exits_of


def is_matching(hall, pairs):
    # All pairs are looked at first: NoRoom comes ahead of any answer.
    for x, y in pairs:
        hall.check_room(x)
        hall.check_room(y)
    exits = exits_of(hall)
    there = {}
    turned = {}
    for x, y in pairs:
        there[(x, y)] = True
        turned[(y, x)] = True
    for x, y in there:
        if hall.colour(x) != hall.colour(y):
            return False
        if not all_answered(exits[x], exits[y], there):
            return False
        if not all_answered(exits[y], exits[x], turned):
            return False
    return True


def all_answered(these, those, paired):
    for name, v in these:
        if not answered(name, v, those, paired):
            return False
    return True


def answered(name, v, those, paired):
    for other, w in those:
        if other == name and (v, w) in paired:
            return True
    return False


def rounds(hall):
    exits = exits_of(hall)
    told = [numbered(colours_of(hall))]
    later = parted_further(exits, told[-1])
    # Classes are numbered in one way alone, so equal lists mean that nothing changed.
    while later != told[-1]:
        told.append(later)
        later = parted_further(exits, later)
    return told


def parted_further(exits, classes):
    marks = []
    for a, doors in enumerate(exits):
        # Which doors there are counts, not how many lead into one class.
        seen = sorted(set([(name, classes[b]) for name, b in doors]))
        marks.append((classes[a], tuple(seen)))
    return numbered(marks)


def numbered(marks):
    numbers = {}
    for mark in marks:
        numbers.setdefault(mark, len(numbers))
    return [numbers[mark] for mark in marks]


def alike(hall, a, b):
    return parted(hall, a, b) is None


def matching(hall, a, b):
    if not alike(hall, a, b):
        return None
    # All pairs of alike rooms together are a matching, the greatest one.
    classes = rounds(hall)[-1]
    pairs = []
    for x, one in enumerate(classes):
        for y, other in enumerate(classes):
            if one == other:
                pairs.append((x, y))
    return pairs


def parted(hall, a, b):
    hall.check_room(a)
    hall.check_room(b)
    for r, classes in enumerate(rounds(hall)):
        if classes[a] != classes[b]:
            return r
    return None
