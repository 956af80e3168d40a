"""Point [8], and the interface of twinrooms/follow.py."""

import unittest
from itertools import product

from tests.made import SheetCase, bright_rows, chain, full_hall, hall_of, large_hall, made_hall, made_sheet, ring
from tests.made import slow_following_pairs, small_halls, state
from twinrooms.alike import alike
from twinrooms.follow import follows, lead
from twinrooms.halls import Hall
from twinrooms.sheets import bright, rooms_of


class FollowCase(SheetCase):

    def assert_follows(self, hall, a, b):
        self.assertIs(follows(hall, a, b), True)
        self.assertIsNone(lead(hall, a, b))

    def assert_strays(self, hall, a, b):
        self.assertIs(follows(hall, a, b), False)
        sheet = lead(hall, a, b)
        self.assert_sheet(sheet)
        self.assertIs(bright(sheet), True)
        rooms = rooms_of(hall, sheet)[-1]
        self.assertIn(a, rooms)
        self.assertNotIn(b, rooms)
        return sheet

    def assert_as_the_document_says(self, hall, rooms):
        following = slow_following_pairs(hall)
        for a, b in product(rooms, repeat=2):
            if (a, b) in following:
                self.assert_follows(hall, a, b)
            else:
                self.assert_strays(hall, a, b)


class OrdinaryTest(FollowCase):

    def test_colours(self):
        hall = Hall([1, 2, 1])
        self.assert_strays(hall, 0, 1)
        self.assert_strays(hall, 1, 2)
        self.assert_follows(hall, 0, 2)
        self.assert_follows(hall, 2, 0)

    def test_one_way(self):
        # Room 1 has all that room 0 has, and a door more.
        hall = hall_of([0] * 3, [(0, 5, 2), (1, 5, 2), (1, 6, 2)])
        self.assert_follows(hall, 0, 1)
        self.assert_strays(hall, 1, 0)

    def test_a_room_without_doors_is_followed_by_all_of_its_colour(self):
        hall = hall_of([0, 0, 0, 1], [(0, 5, 1), (2, 6, 2)])
        self.assert_follows(hall, 1, 0)
        self.assert_follows(hall, 1, 2)
        self.assert_strays(hall, 0, 1)
        self.assert_strays(hall, 2, 1)
        self.assert_strays(hall, 1, 3)

    def test_alike_rooms_both_ways(self):
        hall = hall_of([0, 0, 0], [(0, 5, 0), (1, 5, 2), (2, 5, 1)])
        for a, b in product(range(3), repeat=2):
            self.assert_follows(hall, a, b)

    def test_both_ways_and_not_alike(self):
        # Room 0 may choose a way that leads no further; each other way goes on.
        hall = hall_of([0] * 6, [(0, 1, 2), (0, 1, 3), (1, 1, 4), (3, 2, 5), (4, 2, 5)])
        self.assert_follows(hall, 0, 1)
        self.assert_follows(hall, 1, 0)
        self.assertIs(alike(hall, 0, 1), False)

    def test_not_at_all(self):
        hall = hall_of([0] * 3, [(0, 5, 2), (1, 6, 2)])
        self.assert_strays(hall, 0, 1)
        self.assert_strays(hall, 1, 0)

    def test_where_a_door_leads(self):
        hall = hall_of([0, 0, 1, 2], [(0, 5, 2), (1, 5, 3)])
        self.assert_strays(hall, 0, 1)
        self.assert_strays(hall, 1, 0)
        hall.open_door(1, 5, 2)
        self.assert_follows(hall, 0, 1)
        self.assert_strays(hall, 1, 0)

    def test_the_choice_of_a_way(self):
        # Room 0 chooses behind its door, room 1 before it.
        hall = hall_of([0] * 6, [(0, 1, 2), (2, 2, 5), (2, 3, 5), (1, 1, 3), (1, 1, 4), (3, 2, 5), (4, 3, 5)])
        self.assert_strays(hall, 0, 1)
        self.assert_follows(hall, 1, 0)

    def test_several_doors_of_one_name_that_each_lack_another_thing(self):
        # Behind room 1 each way lacks one of the doors 0 to 9; behind room 0 the one way has them all.
        for most in (2, 3, 10):
            hall = Hall([0] * (most + 4))
            hall.open_door(0, 99, 2)
            for way in range(most):
                hall.open_door(2, way, 3)
                hall.open_door(1, 99, 4 + way)
                for name in range(most):
                    if name != way:
                        hall.open_door(4 + way, name, 3)
            sheet = self.assert_strays(hall, 0, 1)
            self.assertIn("both", [row[0] for row in sheet])
            self.assert_follows(hall, 1, 0)

    def test_every_small_hall(self):
        for hall in small_halls():
            self.assert_as_the_document_says(hall, range(hall.size()))

    def test_made_halls(self):
        for start in range(150):
            hall = made_hall(start)
            self.assert_as_the_document_says(hall, range(hall.size()))

    def test_what_bright_sheets_say_is_kept_by_rooms_that_follow(self):
        for start in range(60):
            hall = made_hall(start)
            sheet = bright_rows(made_sheet(start, 120))
            self.assertTrue(bright(sheet))
            told = rooms_of(hall, sheet)
            for a, b in product(range(hall.size()), repeat=2):
                if follows(hall, a, b):
                    self.assertTrue(all(b in rooms for rooms in told if a in rooms))


class EdgesTest(FollowCase):

    def test_a_room_against_itself(self):
        for hall in (Hall([3]), chain(60), full_hall(), hall_of([0, 1], [(0, 1, 0), (0, 1, 1)])):
            for a in (0, hall.size() // 2, hall.size() - 1):
                self.assert_follows(hall, a, a)

    def test_a_hall_without_doors(self):
        hall = Hall([0, 999] * 30)
        self.assert_follows(hall, 0, 58)
        self.assert_follows(hall, 59, 1)
        self.assert_strays(hall, 0, 59)
        self.assert_strays(hall, 59, 0)

    def test_colours_and_names_of_0_and_999(self):
        hall = hall_of([0, 0, 999, 999], [(0, 0, 2), (1, 999, 2), (2, 0, 0), (3, 0, 1)])
        for a, b in ((0, 2), (0, 1), (1, 0), (2, 3), (3, 2), (3, 0)):
            self.assert_strays(hall, a, b)

    def test_the_ends_of_a_corridor_of_sixty_rooms(self):
        # The further a room is from the end, the longer a walk it has.
        hall = chain(60)
        for a, b in ((1, 0), (59, 0), (59, 58), (30, 29)):
            self.assert_follows(hall, a, b)
            self.assert_strays(hall, b, a)

    def test_all_pairs_of_a_shorter_corridor(self):
        self.assert_as_the_document_says(chain(16), range(16))

    def test_a_corridor_whose_last_door_leads_back(self):
        hall = ring(60)
        self.assert_follows(hall, 0, 59)
        self.assert_follows(hall, 31, 30)
        hall.open_door(59, 1, 59)
        self.assert_strays(hall, 0, 1)
        self.assert_strays(hall, 1, 0)
        self.assert_strays(hall, 59, 58)

    def test_two_rings_that_meet_late(self):
        # Only where rooms 0 and 29 meet does a door lack its answer, up to 29 * 31 steps away.
        hall = Hall([0] * 60)
        for a in range(29):
            hall.open_door(a, 0, (a + 1) % 29)
        for b in range(31):
            hall.open_door(29 + b, 0, 29 + (b + 1) % 31)
        hall.open_door(0, 1, 0)
        for b in range(30, 60):
            hall.open_door(b, 1, 0)
        self.assert_strays(hall, 0, 29)
        self.assert_strays(hall, 1, 30)
        for a in range(29):
            self.assert_strays(hall, a, 59)

    def test_400_doors(self):
        hall = full_hall()
        self.assert_follows(hall, 0, 19)
        for b in range(20):
            hall.shut_door(19, 7, b)
        self.assert_follows(hall, 19, 0)
        self.assert_strays(hall, 0, 19)

    def test_sixty_rooms_with_many_doors(self):
        for start in range(2):
            for doors, colours in ((70, 1), (120, 2), (200, 3), (400, 20)):
                self.assert_as_the_document_says(large_hall(start, doors, colours), (0, 30, 59))


class WrongTest(FollowCase):

    def test_no_room(self):
        self.assert_two_rooms_wanted(follows)
        self.assert_two_rooms_wanted(lead)


class NothingHangsTest(FollowCase):

    def test_the_hall_stays_as_it_is(self):
        for start in range(30):
            hall = made_hall(start)
            before = state(hall)
            for a, b in product(range(hall.size()), repeat=2):
                follows(hall, a, b)
                lead(hall, a, b)
            self.assertEqual(state(hall), before)

    def test_the_sheet_is_fresh(self):
        self.assert_fresh_sheet(lead)

    def test_rooms_follow_in_the_hall_as_it_is_now(self):
        hall = chain(3)
        sheet = self.assert_strays(hall, 0, 1)
        kept = list(sheet)
        hall.open_door(2, 0, 2)
        self.assert_follows(hall, 0, 1)
        hall.paint(1, 8)
        self.assert_strays(hall, 0, 1)
        self.assertEqual(sheet, kept)


if __name__ == "__main__":
    unittest.main()
