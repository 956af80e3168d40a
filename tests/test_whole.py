"""What the points say between the modules: each answer holds together with those of the others."""

import unittest
from itertools import product

from tests.made import bright_rows, hall_of, made_hall, made_sheet, small_halls, state
from twinrooms.alike import alike, is_matching, matching, parted, rounds
from twinrooms.follow import follows, lead
from twinrooms.halls import beside
from twinrooms.notes import read, shown
from twinrooms.sheets import bright, depths, rooms_of
from twinrooms.small import classes, smallest
from twinrooms.telling import telling


def pairs_of(hall):
    return product(range(hall.size()), repeat=2)


def answers(hall):
    """All that the program says of a hall's rooms."""
    told = [rounds(hall), classes(hall), state(smallest(hall)), shown(hall)]
    for a, b in pairs_of(hall):
        told.append((alike(hall, a, b), parted(hall, a, b), follows(hall, a, b)))
        told.append((matching(hall, a, b), telling(hall, a, b), lead(hall, a, b)))
    return told


class WholeTest(unittest.TestCase):

    def setUp(self):
        self.halls = [made_hall(start) for start in range(300, 340)]

    def test_rooms_are_alike_or_parted_and_told_apart(self):
        for hall in self.halls:
            for a, b in pairs_of(hall):
                sheet = telling(hall, a, b)
                parting = parted(hall, a, b)
                self.assertIs(sheet is None, alike(hall, a, b))
                self.assertIs(sheet is None, parting is None)
                self.assertIs(sheet is None, matching(hall, a, b) is not None)
                if sheet is not None:
                    rooms = rooms_of(hall, sheet)[-1]
                    self.assertIs(a in rooms and b not in rooms, True)
                    self.assertEqual(depths(sheet)[-1], parting)

    def test_a_telling_sheet_splits_no_class_of_its_round(self):
        for hall in self.halls:
            told = rounds(hall)
            for a, b in pairs_of(hall):
                sheet = telling(hall, a, b)
                if sheet is not None:
                    numbers = told[parted(hall, a, b)]
                    rooms = rooms_of(hall, sheet)[-1]
                    held = [numbers[room] for room in rooms]
                    self.assertEqual(rooms, [room for room, number in enumerate(numbers) if number in held])

    def test_rooms_follow_or_are_led_astray(self):
        for hall in self.halls:
            for a, b in pairs_of(hall):
                sheet = lead(hall, a, b)
                self.assertIs(sheet is None, follows(hall, a, b))
                if sheet is not None:
                    rooms = rooms_of(hall, sheet)[-1]
                    self.assertIs(a in rooms and b not in rooms and bright(sheet), True)

    def test_following_goes_on_and_alike_rooms_follow_one_another(self):
        for hall in self.halls:
            following = {(a, b) for a, b in pairs_of(hall) if follows(hall, a, b)}
            for a, b in pairs_of(hall):
                if alike(hall, a, b):
                    self.assertIn((a, b), following)
                    self.assertIn((b, a), following)
                for c in range(hall.size()):
                    if (a, b) in following and (b, c) in following:
                        self.assertIn((a, c), following)

    def test_some_rooms_follow_one_another_and_are_told_apart(self):
        hall = hall_of([0] * 6, [(0, 1, 2), (0, 1, 3), (1, 1, 4), (3, 2, 5), (4, 2, 5)])
        self.assertIs(follows(hall, 0, 1) and follows(hall, 1, 0), True)
        for a, b in ((0, 1), (1, 0)):
            self.assertIsNone(lead(hall, a, b))
            self.assertIs(bright(telling(hall, a, b)), False)

    def test_a_matching_and_its_turned_one_make_rooms_follow(self):
        for hall in self.halls:
            for a, b in pairs_of(hall):
                pairs = matching(hall, a, b)
                if pairs is not None:
                    self.assertTrue(is_matching(hall, pairs))
                    self.assertTrue(all(follows(hall, x, y) and follows(hall, y, x) for x, y in pairs[:6]))

    def test_every_row_holds_in_the_smallest_hall_as_it_does_in_the_hall(self):
        for start, hall in enumerate(self.halls):
            numbers = classes(hall)
            sheet = made_sheet(start, 100)
            for rooms, small_rooms in zip(rooms_of(hall, sheet), rooms_of(smallest(hall), sheet)):
                self.assertEqual(rooms, [a for a in range(hall.size()) if numbers[a] in small_rooms])

    def test_the_smallest_hall_parts_and_follows_as_the_hall_does(self):
        for hall in self.halls:
            numbers = classes(hall)
            small = smallest(hall)
            self.assertEqual(rounds(small)[-1], list(range(small.size())))
            self.assertEqual(len(rounds(small)), len(rounds(hall)))
            for a, b in pairs_of(hall):
                self.assertEqual(parted(small, numbers[a], numbers[b]), parted(hall, a, b))
                self.assertIs(follows(small, numbers[a], numbers[b]), follows(hall, a, b))

    def test_a_hall_beside_its_smallest_hall(self):
        for hall in self.halls:
            numbers = classes(hall)
            both = beside(hall, smallest(hall))
            for a in range(hall.size()):
                twin = hall.size() + numbers[a]
                self.assertIs(alike(both, a, twin), True)
                self.assertIsNone(telling(both, a, twin))
                self.assertIsNone(lead(both, a, twin))
                self.assertIsNone(lead(both, twin, a))

    def test_bright_sheets_hold_on_in_rooms_that_follow_beside(self):
        for start, hall in enumerate(self.halls[:12]):
            both = beside(hall, made_hall(start))
            told = rooms_of(both, bright_rows(made_sheet(start, 60)))
            for a, b in pairs_of(both):
                if follows(both, a, b):
                    self.assertTrue(all(b in rooms for rooms in told if a in rooms))

    def test_a_hall_that_was_read_is_spoken_of_as_the_one_that_was_shown(self):
        for hall in self.halls[:20]:
            again = read(shown(hall))
            self.assertEqual(answers(again), answers(hall))
            both = beside(hall, again)
            self.assertTrue(all(alike(both, a, a + hall.size()) for a in range(hall.size())))

    def test_no_answer_hangs_on_an_earlier_one_that_was_changed(self):
        for hall in self.halls[:20]:
            before = state(hall)
            kept = answers(hall)
            for told in [rounds(hall), classes(hall)] + [hall.doors()]:
                told.clear()
            for a, b in pairs_of(hall):
                for told in (matching(hall, a, b), telling(hall, a, b), lead(hall, a, b)):
                    if told is not None:
                        told.clear()
            smallest(hall).paint(0, 998)
            read(shown(hall)).paint(0, 998)
            self.assertEqual(answers(hall), kept)
            self.assertEqual(state(hall), before)

    def test_the_order_in_which_doors_were_opened_does_not_show(self):
        for hall in self.halls[:20]:
            colours, doors = state(hall)
            self.assertEqual(answers(hall_of(colours, doors[::-1])), answers(hall))

    def test_every_small_hall_is_told_apart_no_further_than_its_smallest_one(self):
        for hall in small_halls():
            numbers = classes(hall)
            small = smallest(hall)
            for a, b in pairs_of(hall):
                sheet = telling(small, numbers[a], numbers[b])
                self.assertIs(sheet is None, alike(hall, a, b))
                if sheet is not None:
                    rooms = rooms_of(hall, sheet)[-1]
                    self.assertIs(a in rooms and b not in rooms, True)


if __name__ == "__main__":
    unittest.main()
