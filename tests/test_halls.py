"""Points [1], [2] and [10], and the interface of twinrooms/halls.py."""

import unittest

from tests.made import RefusalCase, full_hall, hall_of, state
from twinrooms.errors import DoorThere, NoDoor, NoRoom, TooMany
from twinrooms.halls import Hall, beside


class RoomsTest(RefusalCase):

    def test_colours_are_told_in_order(self):
        hall = Hall([5, 0, 999])
        self.assertEqual(hall.size(), 3)
        self.assertEqual([hall.colour(a) for a in range(3)], [5, 0, 999])

    def test_one_room_and_sixty(self):
        self.assertEqual(Hall([4]).size(), 1)
        hall = Hall(list(range(60)))
        self.assertEqual(hall.size(), 60)
        self.assertEqual(hall.colour(59), 59)

    def test_no_room_and_sixty_one(self):
        self.assert_refused(TooMany, Hall, [])
        self.assert_refused(TooMany, Hall, [0] * 61)
        self.assert_refused(TooMany, Hall, [0] * 200)

    def test_paint_changes_one_room_alone(self):
        hall = hall_of([1, 2, 3], [(0, 1, 2)])
        hall.paint(1, 999)
        self.assertEqual(state(hall), ([1, 999, 3], [(0, 1, 2)]))
        hall.paint(1, 0)
        self.assertEqual(hall.colour(1), 0)

    def test_colours_handed_in_are_neither_changed_nor_kept(self):
        colours = [1, 2]
        hall = Hall(colours)
        hall.paint(0, 9)
        self.assertEqual(colours, [1, 2])
        colours[1] = 8
        colours.append(3)
        self.assertEqual(state(hall), ([9, 2], []))

    def test_two_halls_share_nothing(self):
        colours = [1, 2]
        one = Hall(colours)
        other = Hall(colours)
        one.paint(0, 5)
        one.open_door(0, 1, 1)
        self.assertEqual(state(other), ([1, 2], []))


class DoorsTest(RefusalCase):

    def test_a_new_hall_has_no_doors(self):
        hall = Hall([0, 0])
        self.assertEqual(hall.doors(), [])
        self.assertEqual(hall.names(1), [])
        self.assertEqual(hall.ways(1, 0), [])

    def test_doors_are_told_sorted_as_tuples(self):
        hall = Hall([0] * 12)
        for door in [(2, 0, 1), (0, 10, 1), (0, 9, 11), (0, 9, 2), (11, 0, 0), (2, 0, 0)]:
            hall.open_door(*door)
        told = hall.doors()
        self.assertEqual(told, [(0, 9, 2), (0, 9, 11), (0, 10, 1), (2, 0, 0), (2, 0, 1), (11, 0, 0)])
        self.assertIs(type(told), list)
        self.assertTrue(all(type(door) is tuple for door in told))

    def test_a_door_leads_one_way(self):
        hall = hall_of([0, 0], [(0, 3, 1)])
        self.assertEqual(hall.ways(0, 3), [1])
        self.assertEqual(hall.ways(1, 3), [])
        self.assertEqual(hall.names(1), [])
        self.assert_refused(NoDoor, hall.shut_door, 1, 3, 0)
        hall.open_door(1, 3, 0)
        self.assertEqual(hall.doors(), [(0, 3, 1), (1, 3, 0)])

    def test_a_door_from_a_room_to_itself(self):
        hall = hall_of([0], [(0, 3, 0)])
        self.assertEqual(hall.doors(), [(0, 3, 0)])
        self.assertEqual(hall.names(0), [3])
        self.assertEqual(hall.ways(0, 3), [0])
        hall.shut_door(0, 3, 0)
        self.assertEqual(hall.doors(), [])

    def test_names_rise_each_once(self):
        hall = hall_of([0] * 3, [(0, 999, 1), (0, 10, 2), (0, 9, 0), (0, 10, 0), (0, 0, 1), (1, 5, 0)])
        self.assertEqual(hall.names(0), [0, 9, 10, 999])
        self.assertEqual(hall.names(1), [5])
        self.assertEqual(hall.names(2), [])
        self.assertIs(type(hall.names(0)), list)

    def test_ways_rise(self):
        hall = hall_of([0] * 12, [(1, 4, 11), (1, 4, 2), (1, 4, 10), (1, 4, 1), (1, 5, 3), (2, 4, 7)])
        self.assertEqual(hall.ways(1, 4), [1, 2, 10, 11])
        self.assertEqual(hall.ways(1, 5), [3])
        self.assertEqual(hall.ways(1, 6), [])
        self.assertIs(type(hall.ways(1, 4)), list)

    def test_rooms_may_be_joined_by_doors_of_two_names(self):
        hall = hall_of([0, 0], [(0, 2, 1), (0, 1, 1)])
        self.assertEqual(hall.doors(), [(0, 1, 1), (0, 2, 1)])

    def test_the_same_door_is_there_once(self):
        hall = hall_of([0, 0], [(0, 1, 1)])
        self.assert_refused(DoorThere, hall.open_door, 0, 1, 1)
        self.assertEqual(hall.doors(), [(0, 1, 1)])

    def test_shutting_takes_that_door_alone(self):
        hall = hall_of([0, 0], [(0, 1, 0), (0, 1, 1), (0, 2, 1), (1, 1, 1)])
        hall.shut_door(0, 1, 1)
        self.assertEqual(hall.doors(), [(0, 1, 0), (0, 2, 1), (1, 1, 1)])
        hall.shut_door(0, 2, 1)
        self.assertEqual(hall.names(0), [1])
        hall.open_door(0, 1, 1)
        self.assertEqual(hall.ways(0, 1), [0, 1])

    def test_a_door_that_is_not_there_is_not_shut(self):
        hall = hall_of([0, 0], [(0, 1, 1)])
        for door in [(0, 1, 0), (0, 2, 1), (1, 1, 1), (1, 1, 0)]:
            self.assert_refused(NoDoor, hall.shut_door, *door)
        self.assertEqual(hall.doors(), [(0, 1, 1)])
        hall.shut_door(0, 1, 1)
        self.assert_refused(NoDoor, hall.shut_door, 0, 1, 1)

    def test_the_400th_door_and_one_more(self):
        hall = full_hall()
        self.assertEqual(len(hall.doors()), 400)
        before = state(hall)
        self.assert_refused(TooMany, hall.open_door, 0, 8, 0)
        self.assertEqual(state(hall), before)
        hall.shut_door(3, 7, 4)
        hall.open_door(0, 8, 0)
        self.assertEqual(len(hall.doors()), 400)
        self.assert_refused(TooMany, hall.open_door, 3, 7, 4)

    def test_of_400_doors_one_that_is_there_is_refused_as_there(self):
        hall = full_hall()
        self.assert_refused(DoorThere, hall.open_door, 19, 7, 19)
        self.assertEqual(len(hall.doors()), 400)

    def test_lists_handed_back_are_fresh(self):
        hall = hall_of([0, 0], [(0, 1, 0), (0, 1, 1)])
        for told in (hall.doors, lambda: hall.names(0), lambda: hall.ways(0, 1)):
            before = told()
            told().append(5)
            told().clear()
            self.assertEqual(told(), before)
        self.assertEqual(hall.doors(), [(0, 1, 0), (0, 1, 1)])


class NoRoomTest(RefusalCase):

    def assert_no_room(self, hall, calls):
        before = state(hall)
        for wrong in (-1, -hall.size(), -1000, hall.size(), hall.size() + 1, 10 ** 30):
            for call in calls:
                self.assert_refused(NoRoom, call, wrong)
        self.assertEqual(state(hall), before)

    def test_in_each_place(self):
        hall = hall_of([3, 4, 5], [(0, 1, 2), (2, 1, 2), (2, 1, 0)])
        self.assert_no_room(hall, [
            hall.colour,
            lambda a: hall.paint(a, 9),
            lambda a: hall.open_door(a, 1, 0),
            lambda a: hall.open_door(0, 1, a),
            lambda a: hall.open_door(a, 1, a),
            lambda a: hall.shut_door(a, 1, 0),
            lambda a: hall.shut_door(0, 1, a),
            lambda a: hall.shut_door(a, 1, a),
            hall.names,
            lambda a: hall.ways(a, 1),
        ])

    def test_ahead_of_too_many(self):
        hall = full_hall()
        self.assert_no_room(hall, [
            lambda a: hall.open_door(a, 8, 0),
            lambda a: hall.open_door(0, 8, a),
        ])

    def test_in_the_smallest_and_the_largest_hall(self):
        for size in (1, 60):
            hall = Hall([0] * size)
            self.assert_no_room(hall, [hall.colour, lambda a: hall.open_door(0, 0, a)])
            hall.open_door(size - 1, 0, size - 1)
            self.assertEqual(hall.names(size - 1), [0])


class BesideTest(RefusalCase):

    def test_the_second_halls_rooms_are_raised(self):
        one = hall_of([1, 2], [(0, 5, 1), (1, 5, 1)])
        other = hall_of([3, 4, 1], [(0, 5, 1), (2, 6, 0)])
        both = beside(one, other)
        self.assertIsInstance(both, Hall)
        self.assertEqual(state(both), ([1, 2, 3, 4, 1], [(0, 5, 1), (1, 5, 1), (2, 5, 3), (4, 6, 2)]))
        both = beside(other, one)
        self.assertEqual(state(both), ([3, 4, 1, 1, 2], [(0, 5, 1), (2, 6, 0), (3, 5, 4), (4, 5, 4)]))

    def test_a_hall_beside_itself(self):
        hall = hall_of([1, 2], [(0, 5, 1)])
        self.assertEqual(state(beside(hall, hall)), ([1, 2, 1, 2], [(0, 5, 1), (2, 5, 3)]))
        self.assertEqual(state(hall), ([1, 2], [(0, 5, 1)]))

    def test_nothing_hangs_on_the_two_halls(self):
        one = hall_of([1], [(0, 5, 0)])
        other = hall_of([2], [(0, 6, 0)])
        both = beside(one, other)
        one.paint(0, 9)
        one.shut_door(0, 5, 0)
        other.paint(0, 9)
        other.open_door(0, 7, 0)
        self.assertEqual(state(both), ([1, 2], [(0, 5, 0), (1, 6, 1)]))
        both.paint(0, 3)
        both.shut_door(1, 6, 1)
        both.open_door(0, 8, 1)
        self.assertEqual(state(one), ([9], []))
        self.assertEqual(state(other), ([9], [(0, 6, 0), (0, 7, 0)]))

    def test_sixty_rooms_and_one_more(self):
        self.assertEqual(beside(Hall([0] * 59), Hall([1])).colour(59), 1)
        self.assertEqual(beside(Hall([0] * 30), Hall([0] * 30)).size(), 60)
        self.assert_refused(TooMany, beside, Hall([0] * 60), Hall([0]))
        self.assert_refused(TooMany, beside, Hall([0]), Hall([0] * 60))
        self.assert_refused(TooMany, beside, Hall([0] * 31), Hall([0] * 30))

    def test_400_doors_and_one_more(self):
        full = full_hall()
        self.assertEqual(len(beside(full, Hall([0])).doors()), 400)
        self.assertEqual(beside(Hall([0]), full).doors()[-1], (20, 7, 20))
        one = hall_of([0], [(0, 0, 0)])
        before = state(full)
        self.assert_refused(TooMany, beside, full, one)
        self.assert_refused(TooMany, beside, one, full)
        self.assert_refused(TooMany, beside, full, full)
        self.assertEqual(state(full), before)
        self.assertEqual(state(one), ([0], [(0, 0, 0)]))


if __name__ == "__main__":
    unittest.main()
