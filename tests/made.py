"""Halls and sheets for the tests, and slow answers taken word for word from the document."""

import unittest
from itertools import product

from twinrooms.errors import HallError, NoRoom
from twinrooms.halls import Hall


def hall_of(colours, doors):
    hall = Hall(list(colours))
    for a, name, b in doors:
        hall.open_door(a, name, b)
    return hall


def state(hall):
    return [hall.colour(a) for a in range(hall.size())], hall.doors()


def chain(length):
    """Each room leads to the next one alone; the last one leads nowhere."""
    return hall_of([0] * length, [(a, 0, a + 1) for a in range(length - 1)])


def ring(length):
    """Each room leads to the next one alone; the last one leads back to the first."""
    return hall_of([0] * length, [(a, 0, (a + 1) % length) for a in range(length)])


def full_hall():
    """Twenty rooms, one door name, a door from each to each: 400 doors."""
    return hall_of([0] * 20, [(a, 7, b) for a in range(20) for b in range(20)])


class RefusalCase(unittest.TestCase):

    def assert_refused(self, error, call, *handed):
        with self.assertRaises(HallError) as caught:
            call(*handed)
        self.assertIs(type(caught.exception), error)
        self.assertIsInstance(caught.exception, ValueError)

    def assert_two_rooms_wanted(self, call):
        """NoRoom in each place of a call that wants two rooms, and the hall stays as it is."""
        for hall in (Hall([4]), hall_of([0, 0, 1], [(0, 5, 1), (1, 5, 0), (2, 5, 2)]), chain(60), full_hall()):
            before = state(hall)
            size = hall.size()
            for wrong in (-1, -size, -1000, size, size + 1, 10 ** 30):
                for right in (0, size - 1):
                    self.assert_refused(NoRoom, call, hall, wrong, right)
                    self.assert_refused(NoRoom, call, hall, right, wrong)
                self.assert_refused(NoRoom, call, hall, wrong, wrong)
            self.assertEqual(state(hall), before)
            call(hall, 0, size - 1)


class SheetCase(RefusalCase):

    def assert_sheet(self, sheet):
        """The form that point [3] tells: kinds, lengths, and places that lie ahead."""
        self.assertIs(type(sheet), list)
        self.assertTrue(1 <= len(sheet) <= 50000, len(sheet))
        for place, row in enumerate(sheet):
            self.assertIs(type(row), tuple)
            self.assertTrue(all(type(number) is int for number in row[1:]), row)
            self.assertIn((row[0], len(row)), (("colour", 2), ("not", 2), ("both", 3), ("some", 3), ("any", 1)))
            named = {"not": row[1:], "both": row[1:], "some": row[2:]}.get(row[0], ())
            self.assertTrue(all(0 <= k < place for k in named), (place, row))

    def assert_fresh_sheet(self, call):
        """A sheet handed back and then changed changes nothing."""
        hall = chain(4)
        first = call(hall, 0, 1)
        kept = list(first)
        first.reverse()
        first.append(("any",))
        self.assertEqual(call(hall, 0, 1), kept)
        first.clear()
        self.assertEqual(call(hall, 0, 1), kept)
        self.assertEqual(state(hall), state(chain(4)))


class Dice:
    """The same run of numbers for the same start, on every Python."""

    def __init__(self, start):
        self.value = start

    def roll(self, sides):
        self.value = (self.value * 6364136223846793005 + 1442695040888963407) % 2 ** 64
        return (self.value >> 33) % sides


def made_hall(start):
    dice = Dice(start)
    size = 1 + dice.roll(9)
    hall = Hall([dice.roll(2) for _ in range(size)])
    wanted = {(dice.roll(size), dice.roll(2), dice.roll(size)) for _ in range(dice.roll(3 * size))}
    for a, name, b in sorted(wanted):
        hall.open_door(a, name, b)
    return hall


def large_hall(start, doors, colours=1):
    """Sixty rooms with that many doors of one name."""
    dice = Dice(start)
    hall = Hall([dice.roll(colours) for _ in range(60)])
    wanted = set()
    while len(wanted) < doors:
        wanted.add((dice.roll(60), 0, dice.roll(60)))
    for a, name, b in sorted(wanted):
        hall.open_door(a, name, b)
    return hall


def bright_rows(sheet):
    """Each "not" made an "any", so that the sheet is bright."""
    return [("any",) if row[0] == "not" else row for row in sheet]


def made_sheet(start, length):
    dice = Dice(start)
    sheet = [("any",), ("colour", 0), ("colour", 1)]
    while len(sheet) < length:
        place = len(sheet)
        kind = dice.roll(4)
        if kind == 0:
            sheet.append(("not", dice.roll(place)))
        elif kind == 1:
            sheet.append(("both", dice.roll(place), dice.roll(place)))
        else:
            sheet.append(("some", dice.roll(2), dice.roll(place)))
    return sheet


def small_halls():
    """Every hall of three rooms with one door name, and every one of two rooms with two."""
    for size, names, palettes in (
        (3, (0,), ((0, 0, 0), (0, 0, 1), (0, 1, 0), (1, 0, 0))),
        (2, (0, 1), ((0, 0), (0, 1))),
    ):
        places = list(product(range(size), names, range(size)))
        for chosen in product((False, True), repeat=len(places)):
            doors = [door for door, taken in zip(places, chosen) if taken]
            for colours in palettes:
                yield hall_of(colours, doors)


def slow_is_matching(hall, pairs):
    doors = hall.doors()
    for x, y in pairs:
        if hall.colour(x) != hall.colour(y):
            return False
        for a, name, v in doors:
            if a == x and not any((y, name, w) in doors and (v, w) in pairs for w in range(hall.size())):
                return False
        for a, name, w in doors:
            if a == y and not any((x, name, v) in doors and (v, w) in pairs for v in range(hall.size())):
                return False
    return True


def slow_alike_pairs(hall):
    """The greatest matching: bad pairs are thrown out until none is left."""
    size = hall.size()
    doors = set(hall.doors())
    pairs = {(x, y) for x in range(size) for y in range(size) if hall.colour(x) == hall.colour(y)}

    def bad(x, y):
        return any(
            a == x and not any((y, name, w) in doors and (v, w) in pairs for w in range(size)) for a, name, v in doors
        ) or any(
            a == y and not any((x, name, v) in doors and (v, w) in pairs for v in range(size)) for a, name, w in doors
        )

    while True:
        thrown = {pair for pair in pairs if bad(*pair)}
        if not thrown:
            return pairs
        pairs -= thrown


def slow_following_pairs(hall):
    """The greatest set of pairs that point [8] tells: bad pairs are thrown out until none is left."""
    size = hall.size()
    doors = hall.doors()
    exits = [[(name, v) for a, name, v in doors if a == p] for p in range(size)]
    pairs = {(p, q) for p in range(size) for q in range(size) if hall.colour(p) == hall.colour(q)}
    while True:
        thrown = {
            (p, q) for p, q in pairs for name, v in exits[p]
            if not any(other == name and (v, w) in pairs for other, w in exits[q])
        }
        if not thrown:
            return pairs
        pairs -= thrown


def slow_together(hall, r, x, y):
    """Whether two rooms are in one class behind round r, by point [6] word for word."""
    if hall.colour(x) != hall.colour(y):
        return False
    if r == 0:
        return True
    if not slow_together(hall, r - 1, x, y):
        return False
    for one, other in ((x, y), (y, x)):
        for name in hall.names(one):
            for v in hall.ways(one, name):
                if not any(slow_together(hall, r - 1, v, w) for w in hall.ways(other, name)):
                    return False
    return True


class Writer:
    """Writes sheets that say all that r rounds can see of a room."""

    def __init__(self, hall):
        self.hall = hall
        self.rows = [("any",)]
        self.seen_names = sorted({name for a, name, b in hall.doors()})

    def put(self, row):
        self.rows.append(row)
        return len(self.rows) - 1

    def both_of(self, places):
        whole = 0
        for place in places:
            whole = self.put(("both", whole, place))
        return whole

    def none_of(self, places):
        return self.both_of([self.put(("not", place)) for place in places])

    def colours_told(self):
        return [self.put(("colour", self.hall.colour(a))) for a in range(self.hall.size())]

    def deeper(self, told):
        return [self.deeper_room(a, told) for a in range(self.hall.size())]

    def deeper_room(self, a, told):
        parts = [told[a]]
        for name in self.seen_names:
            ways = self.hall.ways(a, name)
            parts.extend(self.put(("some", name, told[v])) for v in ways)
            strange = self.none_of([told[v] for v in ways])
            parts.append(self.put(("not", self.put(("some", name, strange)))))
        return self.both_of(parts)
