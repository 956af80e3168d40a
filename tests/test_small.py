"""Point [9], and the interface of twinrooms/small.py."""

import unittest
from itertools import product

from tests.made import chain, full_hall, hall_of, large_hall, made_hall, ring, slow_alike_pairs, small_halls, state
from twinrooms.alike import alike, rounds
from twinrooms.halls import Hall, beside
from twinrooms.small import classes, smallest


def slow_classes(hall):
    """The least alike room of each room, numbered in the order of these."""
    same = slow_alike_pairs(hall)
    least = [min(b for b in range(hall.size()) if (a, b) in same) for a in range(hall.size())]
    return [sorted(set(least)).index(room) for room in least]


class SmallCase(unittest.TestCase):

    def assert_as_the_document_says(self, hall):
        before = state(hall)
        numbers = slow_classes(hall)
        self.assertEqual(classes(hall), numbers)
        small = smallest(hall)
        self.assertIsInstance(small, Hall)
        colours = [hall.colour(numbers.index(number)) for number in range(max(numbers) + 1)]
        doors = sorted({(numbers[a], name, numbers[b]) for a, name, b in hall.doors()})
        self.assertEqual(state(small), (colours, doors))
        self.assertEqual(slow_alike_pairs(small), {(a, a) for a in range(small.size())})
        self.assertEqual(state(hall), before)


class OrdinaryTest(SmallCase):

    def test_a_hall_worked_out_by_hand(self):
        # Rooms 1 and 3 are alike, and so are 2, 4 and 5.
        hall = hall_of(
            [7, 3, 5, 3, 5, 5],
            [(0, 9, 4), (0, 8, 1), (1, 9, 2), (1, 9, 5), (3, 9, 4), (2, 1, 2), (4, 1, 5), (5, 1, 4), (5, 1, 2)],
        )
        self.assertEqual(classes(hall), [0, 1, 2, 1, 2, 2])
        self.assertEqual(state(smallest(hall)), ([7, 3, 5], [(0, 8, 1), (0, 9, 2), (1, 9, 2), (2, 1, 2)]))

    def test_classes_stand_in_the_order_of_their_least_rooms(self):
        hall = Hall([9, 3, 9, 0, 3])
        self.assertEqual(classes(hall), [0, 1, 0, 2, 1])
        self.assertEqual(state(smallest(hall)), ([9, 3, 0], []))

    def test_rooms_of_one_colour_that_doors_part(self):
        hall = hall_of([4] * 4, [(0, 1, 3), (1, 2, 3), (2, 1, 3)])
        self.assertEqual(classes(hall), [0, 1, 0, 2])
        self.assertEqual(state(smallest(hall)), ([4, 4, 4], [(0, 1, 2), (1, 2, 2)]))

    def test_doors_of_two_names_stay_two(self):
        hall = hall_of([0, 0], [(0, 1, 1), (0, 2, 1), (1, 1, 0), (1, 2, 0)])
        self.assertEqual(state(smallest(hall)), ([0], [(0, 1, 0), (0, 2, 0)]))

    def test_every_small_hall(self):
        for hall in small_halls():
            self.assert_as_the_document_says(hall)

    def test_made_halls(self):
        for start in range(150):
            self.assert_as_the_document_says(made_hall(start))

    def test_each_room_is_alike_its_classs_room_beside(self):
        for start in range(40):
            hall = made_hall(start)
            numbers = classes(hall)
            small = smallest(hall)
            one = beside(hall, small)
            other = beside(small, hall)
            for a in range(hall.size()):
                self.assertIs(alike(one, a, hall.size() + numbers[a]), True)
                self.assertIs(alike(other, small.size() + a, numbers[a]), True)

    def test_no_two_rooms_of_it_are_alike(self):
        for start in range(40):
            small = smallest(made_hall(start))
            for a, b in product(range(small.size()), repeat=2):
                self.assertIs(alike(small, a, b), a == b)

    def test_the_smallest_hall_of_a_smallest_hall_is_the_same(self):
        for start in range(60):
            small = smallest(made_hall(start))
            self.assertEqual(classes(small), list(range(small.size())))
            self.assertEqual(state(smallest(small)), state(small))

    def test_a_hall_beside_its_smallest_hall_has_the_same_smallest_hall(self):
        for start in range(60):
            hall = made_hall(start)
            small = smallest(hall)
            both = beside(hall, small)
            self.assertEqual(classes(both), classes(hall) + classes(small))
            self.assertEqual(state(smallest(both)), state(small))

    def test_classes_are_those_behind_the_last_round(self):
        for start in range(60):
            hall = made_hall(start)
            self.assertEqual(classes(hall), rounds(hall)[-1])


class EdgesTest(SmallCase):

    def test_one_room(self):
        self.assertEqual(state(smallest(Hall([999]))), ([999], []))
        self.assertEqual(classes(Hall([999])), [0])
        hall = hall_of([0], [(0, 0, 0), (0, 999, 0)])
        self.assertEqual(state(smallest(hall)), ([0], [(0, 0, 0), (0, 999, 0)]))

    def test_sixty_rooms_without_doors(self):
        self.assertEqual(state(smallest(Hall([5] * 60))), ([5], []))
        self.assertEqual(classes(Hall([5] * 60)), [0] * 60)
        colours = list(range(940, 1000))
        self.assertEqual(state(smallest(Hall(colours))), (colours, []))

    def test_corridors_of_sixty_rooms(self):
        self.assertEqual(state(smallest(chain(60))), state(chain(60)))
        self.assertEqual(classes(chain(60)), list(range(60)))
        self.assertEqual(state(smallest(ring(60))), ([0], [(0, 0, 0)]))
        self.assertEqual(classes(ring(60)), [0] * 60)

    def test_a_ring_of_two_colours(self):
        hall = ring(60)
        for a in range(1, 60, 3):
            hall.paint(a, 999)
        self.assertEqual(classes(hall), [0, 1, 2] * 20)
        self.assertEqual(state(smallest(hall)), ([0, 999, 0], [(0, 0, 1), (1, 0, 2), (2, 0, 0)]))

    def test_400_doors(self):
        self.assertEqual(state(smallest(full_hall())), ([0], [(0, 7, 0)]))
        hall = full_hall()
        for a in range(20):
            hall.paint(a, a)
        self.assertEqual(state(smallest(hall)), state(hall))
        hall = hall_of([0, 999], [(a, name, b) for a in (0, 1) for b in (0, 1) for name in range(900, 1000)])
        self.assertEqual(state(smallest(hall)), state(hall))

    def test_sixty_rooms_with_many_doors(self):
        for start in range(5):
            self.assert_as_the_document_says(large_hall(start, 80))
        self.assert_as_the_document_says(large_hall(9, 400))


class NothingHangsTest(SmallCase):

    def test_the_two_halls_share_nothing(self):
        hall = hall_of([1, 2], [(0, 5, 1), (1, 5, 1)])
        small = smallest(hall)
        hall.paint(0, 9)
        hall.shut_door(0, 5, 1)
        hall.open_door(1, 6, 0)
        self.assertEqual(state(small), ([1, 2], [(0, 5, 1), (1, 5, 1)]))
        small.paint(1, 8)
        small.shut_door(1, 5, 1)
        small.open_door(0, 7, 0)
        self.assertEqual(state(hall), ([9, 2], [(1, 5, 1), (1, 6, 0)]))

    def test_two_smallest_halls_share_nothing(self):
        hall = hall_of([1, 1], [(0, 5, 1), (1, 5, 1)])
        one = smallest(hall)
        one.paint(0, 4)
        one.shut_door(0, 5, 0)
        self.assertEqual(state(smallest(hall)), ([1], [(0, 5, 0)]))

    def test_the_list_of_classes_is_fresh(self):
        hall = chain(3)
        told = classes(hall)
        self.assertIs(type(told), list)
        told[0] = 5
        told.append(5)
        self.assertEqual(classes(hall), [0, 1, 2])
        self.assertEqual(state(smallest(hall)), state(chain(3)))

    def test_the_answer_is_that_of_the_hall_as_it_is_now(self):
        hall = chain(2)
        self.assertEqual(classes(hall), [0, 1])
        hall.open_door(1, 0, 0)
        self.assertEqual(classes(hall), [0, 0])
        self.assertEqual(state(smallest(hall)), ([0], [(0, 0, 0)]))


if __name__ == "__main__":
    unittest.main()
