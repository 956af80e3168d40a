"""What points [6] and [7] say of rooms told apart, and the interface of twinrooms/telling.py."""

import unittest
from itertools import product

from tests.made import SheetCase, chain, full_hall, hall_of, large_hall, made_hall, ring, slow_alike_pairs
from tests.made import slow_together, small_halls, state
from twinrooms.alike import alike, parted
from twinrooms.halls import Hall
from twinrooms.sheets import depths, rooms_of
from twinrooms.telling import telling


class TellingCase(SheetCase):

    def assert_told(self, hall, a, b, parting):
        sheet = telling(hall, a, b)
        self.assert_sheet(sheet)
        rooms = rooms_of(hall, sheet)[-1]
        self.assertIn(a, rooms)
        self.assertNotIn(b, rooms)
        self.assertEqual(depths(sheet)[-1], parting)
        return sheet

    def assert_told_both_ways(self, hall, a, b, parting):
        self.assertEqual(parted(hall, a, b), parting)
        self.assert_told(hall, a, b, parting)
        self.assert_told(hall, b, a, parting)

    def assert_all_told(self, hall, rooms):
        for a, b in product(rooms, repeat=2):
            parting = parted(hall, a, b)
            if parting is None:
                self.assertIsNone(telling(hall, a, b))
            else:
                self.assert_told(hall, a, b, parting)


class OrdinaryTest(TellingCase):

    def test_colours(self):
        hall = hall_of([3, 4, 4], [(0, 1, 1), (1, 1, 0)])
        self.assert_told_both_ways(hall, 0, 1, 0)
        self.assert_told_both_ways(hall, 2, 0, 0)

    def test_a_door_that_one_has_and_the_other_has_not(self):
        hall = hall_of([0, 0, 0], [(0, 5, 2)])
        self.assert_told_both_ways(hall, 0, 1, 1)

    def test_a_door_of_another_name(self):
        hall = hall_of([0, 0, 0, 0], [(0, 5, 2), (1, 6, 2), (3, 5, 2), (3, 6, 2)])
        self.assert_told_both_ways(hall, 0, 1, 1)
        self.assert_told_both_ways(hall, 0, 3, 1)
        self.assert_told_both_ways(hall, 1, 3, 1)

    def test_where_a_door_leads(self):
        hall = hall_of([0, 0, 1, 2], [(0, 5, 2), (1, 5, 3)])
        self.assert_told_both_ways(hall, 0, 1, 1)

    def test_where_several_doors_of_one_name_lead(self):
        hall = hall_of([0, 0, 1, 2, 3], [(0, 5, 2), (0, 5, 3), (0, 5, 4), (1, 5, 2), (1, 5, 3)])
        self.assert_told_both_ways(hall, 0, 1, 1)
        hall = hall_of([0, 0, 1, 2, 3], [(0, 5, 2), (0, 5, 3), (1, 5, 3), (1, 5, 4)])
        self.assert_told_both_ways(hall, 0, 1, 1)

    def test_several_doors_whose_rooms_only_a_later_round_parts(self):
        # Behind room 0 one room has doors 1 and 2; behind room 1 one has door 1, another one door 2.
        hall = hall_of([0] * 6, [(0, 9, 2), (1, 9, 3), (1, 9, 4), (2, 1, 5), (2, 2, 5), (3, 1, 5), (4, 2, 5)])
        self.assert_told_both_ways(hall, 0, 1, 2)

    def test_a_room_that_has_all_the_doors_of_another_and_one_more(self):
        # Each door of room 1 is answered by room 0, so only a "not" holds in room 1 and not in room 0.
        hall = hall_of([0, 0, 1, 2], [(0, 5, 2), (0, 5, 3), (1, 5, 3)])
        self.assertIn("not", [row[0] for row in self.assert_told(hall, 1, 0, 1)])
        self.assert_told(hall, 0, 1, 1)

    def test_a_not_behind_a_door(self):
        hall = hall_of([0] * 5, [(0, 5, 2), (1, 5, 3), (3, 6, 4)])
        self.assert_told_both_ways(hall, 0, 1, 2)

    def test_alike_rooms(self):
        hall = hall_of([0, 0, 0, 1], [(0, 5, 0), (1, 5, 2), (2, 5, 1)])
        for a, b in product(range(3), repeat=2):
            self.assertIsNone(telling(hall, a, b))
        self.assert_told_both_ways(hall, 2, 3, 0)

    def test_every_small_hall(self):
        for hall in small_halls():
            self.assert_all_told(hall, range(hall.size()))

    def test_made_halls(self):
        for start in range(150):
            hall = made_hall(start)
            self.assert_all_told(hall, range(hall.size()))

    def test_made_halls_against_the_words_of_the_document(self):
        for start in range(200, 240):
            hall = made_hall(start)
            same = slow_alike_pairs(hall)
            for a, b in product(range(hall.size()), repeat=2):
                sheet = telling(hall, a, b)
                self.assertIs(sheet is None, (a, b) in same)
                if sheet is not None and depths(sheet)[-1] < 4:
                    depth = depths(sheet)[-1]
                    self.assertIs(slow_together(hall, depth, a, b), False)
                    self.assertIs(depth == 0 or slow_together(hall, depth - 1, a, b), True)


class EdgesTest(TellingCase):

    def test_a_room_against_itself(self):
        for hall in (Hall([3]), chain(60), full_hall(), hall_of([0, 1], [(0, 1, 0), (0, 1, 1)])):
            for a in range(hall.size()):
                self.assertIsNone(telling(hall, a, a))

    def test_one_room_with_doors_to_itself(self):
        self.assertIsNone(telling(hall_of([3], [(0, 1, 0), (0, 2, 0)]), 0, 0))

    def test_a_hall_without_doors(self):
        hall = Hall([0, 999] * 30)
        self.assert_told_both_ways(hall, 0, 59, 0)
        self.assertIsNone(telling(hall, 0, 58))
        self.assertIsNone(telling(hall, 59, 1))

    def test_colours_and_names_of_0_and_999(self):
        hall = hall_of([0, 0, 999, 999], [(0, 0, 2), (1, 999, 2), (2, 0, 0), (3, 0, 1)])
        self.assert_told_both_ways(hall, 0, 2, 0)
        self.assert_told_both_ways(hall, 0, 1, 1)
        self.assert_told_both_ways(hall, 2, 3, 2)

    def test_the_ends_of_a_corridor_of_sixty_rooms(self):
        hall = chain(60)
        self.assert_told_both_ways(hall, 0, 1, 59)
        self.assert_told_both_ways(hall, 0, 2, 58)
        self.assert_told_both_ways(hall, 30, 29, 30)
        self.assert_told_both_ways(hall, 0, 59, 1)
        self.assert_told_both_ways(hall, 58, 59, 1)

    def test_all_pairs_of_a_shorter_corridor(self):
        self.assert_all_told(chain(20), range(20))

    def test_a_corridor_whose_last_door_leads_back(self):
        hall = ring(60)
        self.assertIsNone(telling(hall, 0, 59))
        self.assertIsNone(telling(hall, 31, 30))
        hall.paint(59, 1)
        self.assert_told_both_ways(hall, 0, 1, 58)
        self.assert_told_both_ways(hall, 0, 59, 0)
        self.assert_told_both_ways(hall, 58, 57, 1)

    def test_a_corridor_with_several_doors_back(self):
        # Each room leads on and back to all rooms behind it, as far as 400 doors allow.
        hall = chain(60)
        for a in range(59, 25, -1):
            for b in range(a, a - 10, -1):
                hall.open_door(a, 0, b)
        self.assertEqual(len(hall.doors()), 399)
        self.assert_all_told(hall, (0, 1, 2, 25, 26, 40, 58, 59))

    def test_400_doors(self):
        hall = full_hall()
        self.assertIsNone(telling(hall, 0, 19))
        hall.paint(19, 1)
        self.assertIsNone(telling(hall, 0, 18))
        self.assert_told_both_ways(hall, 0, 19, 0)
        hall.paint(19, 0)
        hall.shut_door(19, 7, 19)
        self.assertIsNone(telling(hall, 0, 19))
        for b in range(19):
            hall.shut_door(19, 7, b)
        self.assert_told_both_ways(hall, 0, 19, 1)

    def test_sixty_rooms_with_many_doors(self):
        for start in range(3):
            for doors in (70, 120, 200, 400):
                hall = large_hall(start, doors)
                self.assert_all_told(hall, (0, 1, 30, 58, 59))


class WrongTest(TellingCase):

    def test_no_room(self):
        self.assert_two_rooms_wanted(telling)


class NothingHangsTest(TellingCase):

    def test_the_hall_stays_as_it_is(self):
        for start in range(30):
            hall = made_hall(start)
            before = state(hall)
            for a, b in product(range(hall.size()), repeat=2):
                telling(hall, a, b)
            self.assertEqual(state(hall), before)

    def test_the_sheet_is_fresh(self):
        self.assert_fresh_sheet(telling)

    def test_rooms_are_told_apart_in_the_hall_as_it_is_now(self):
        hall = chain(3)
        sheet = self.assert_told(hall, 0, 1, 2)
        kept = list(sheet)
        hall.open_door(2, 0, 2)
        self.assertIsNone(telling(hall, 0, 1))
        self.assertIs(alike(hall, 0, 1), True)
        hall.paint(1, 8)
        self.assert_told_both_ways(hall, 0, 1, 0)
        self.assertEqual(sheet, kept)


if __name__ == "__main__":
    unittest.main()
