"""Sheets that tell rooms apart, no deeper than the round that parts them."""

from twinrooms.alike import parted, rounds
from twinrooms.halls import colours_of, exits_of
from twinrooms.rows import sheet_for


def telling(hall, a, b):
    if parted(hall, a, b) is None:
        return None
    return sheet_for(parting_grounds(hall), (a, b))


def parting_grounds(hall):
    colours = colours_of(hall)
    exits = exits_of(hall)
    told = rounds(hall)
    grounds = {}
    for x, y in pairs_apart(told[0]):
        grounds[(x, y)] = ("colour", colours[x])
    # Round by round, so that what parts a pair names only pairs parted by an earlier round.
    for before, behind in zip(told, told[1:]):
        part_by_doors(grounds, exits, before, behind)
    return grounds


def pairs_apart(classes):
    pairs = []
    for x, one in enumerate(classes):
        for y, other in enumerate(classes):
            if one != other:
                pairs.append((x, y))
    return pairs


def part_by_doors(grounds, exits, before, behind):
    turned = []
    for x, y in pairs_apart(behind):
        if (x, y) not in grounds:
            ground = unanswered(exits[x], exits[y], before)
            if ground is None:
                turned.append((x, y))
            else:
                grounds[(x, y)] = ground
    # Where each door of x is answered, one of y is not: its row was written above, and is denied here.
    for x, y in turned:
        grounds[(x, y)] = ("not", (y, x))


def unanswered(these, those, classes):
    for name, v in these:
        ways = [w for other, w in those if other == name]
        if classes[v] not in [classes[w] for w in ways]:
            return ("some", name, [(v, w) for w in ways])
    return None
