"""Rooms that follow, and bright sheets that lead where a room does not follow."""

from twinrooms.halls import colours_of
from twinrooms.rows import sheet_for


def follows(hall, a, b):
    hall.check_room(a)
    hall.check_room(b)
    return (a, b) not in straying_grounds(hall)


def lead(hall, a, b):
    hall.check_room(a)
    hall.check_room(b)
    grounds = straying_grounds(hall)
    if (a, b) not in grounds:
        return None
    return sheet_for(grounds, (a, b))


def straying_grounds(hall):
    # Each pair is looked at once: going over all pairs round by round may take hundreds of rounds.
    ways = ways_by_name(hall)
    into = doors_into(hall)
    grounds = grounds_at_sight(hall, ways)
    queue = list(grounds)
    looked = 0
    while looked < len(queue):
        found = strays_behind(queue[looked], grounds, ways, into)
        for pair, ground in found:
            if pair not in grounds:
                grounds[pair] = ground
                queue.append(pair)
        looked = looked + 1
    return grounds


def ways_by_name(hall):
    ways = {}
    for a, name, b in hall.doors():
        ways.setdefault((a, name), []).append(b)
    return ways


def doors_into(hall):
    into = [[] for a in range(hall.size())]
    for a, name, b in hall.doors():
        into[b].append((a, name))
    return into


def grounds_at_sight(hall, ways):
    grounds = {}
    colours = colours_of(hall)
    for p, one in enumerate(colours):
        for q, other in enumerate(colours):
            if one != other:
                grounds[(p, q)] = ("colour", one)
    for p, name, v in hall.doors():
        for q in range(hall.size()):
            if (q, name) not in ways:
                grounds.setdefault((p, q), ("some", name, []))
    return grounds


def strays_behind(pair, grounds, ways, into):
    v = pair[0]
    w = pair[1]
    found = []
    for q, name in into[w]:
        denied = [(v, u) for u in ways[(q, name)]]
        # As long as one of q's doors of that name may answer, no room that leads to v is told from q by it.
        if all([other in grounds for other in denied]):
            found.extend([((p, q), ("some", name, denied)) for p, same in into[v] if same == name])
    return found
