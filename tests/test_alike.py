"""Points [5] and [6], what point [7] says of classes and rows, and the interface of twinrooms/alike.py."""

import unittest
from itertools import product

from tests.made import RefusalCase, Writer, chain, hall_of, made_hall, made_sheet, slow_alike_pairs
from tests.made import slow_is_matching, slow_together, small_halls, state
from twinrooms.alike import alike, is_matching, matching, parted, rounds
from twinrooms.errors import NoRoom
from twinrooms.halls import Hall, beside
from twinrooms.sheets import depths, rooms_of


class IsMatchingTest(unittest.TestCase):

    def test_no_pairs(self):
        self.assertIs(is_matching(Hall([0]), []), True)
        self.assertIs(is_matching(hall_of([0, 1], [(0, 1, 1)]), []), True)

    def test_colours(self):
        hall = Hall([1, 2, 1])
        self.assertIs(is_matching(hall, [(0, 2)]), True)
        self.assertIs(is_matching(hall, [(0, 1)]), False)
        self.assertIs(is_matching(hall, [(0, 2), (2, 1)]), False)

    def test_a_pair_need_not_be_turned_nor_a_room_stand_beside_itself(self):
        hall = hall_of([1, 2, 1, 2], [(0, 5, 1), (2, 5, 3)])
        self.assertIs(is_matching(hall, [(0, 2), (1, 3)]), True)
        self.assertIs(is_matching(hall, [(0, 2)]), False)
        self.assertIs(is_matching(hall, [(0, 2), (3, 1)]), False)

    def test_doors_of_the_first_room_want_an_answer(self):
        hall = hall_of([0, 0, 0], [(0, 5, 2)])
        self.assertIs(is_matching(hall, [(0, 1), (2, 2)]), False)

    def test_doors_of_the_second_room_want_an_answer(self):
        hall = hall_of([0, 0, 0], [(0, 5, 2)])
        self.assertIs(is_matching(hall, [(1, 0), (2, 2)]), False)

    def test_the_answer_has_the_same_name(self):
        hall = hall_of([0, 0, 0], [(0, 5, 2), (1, 6, 2)])
        self.assertIs(is_matching(hall, [(0, 1), (2, 2)]), False)
        hall = hall_of([0, 0, 0], [(0, 5, 2), (1, 5, 2)])
        self.assertIs(is_matching(hall, [(0, 1), (2, 2)]), True)

    def test_several_doors_of_one_name(self):
        hall = hall_of([0, 0, 1, 2, 1, 2], [(0, 5, 2), (0, 5, 3), (1, 5, 4), (1, 5, 5)])
        self.assertIs(is_matching(hall, [(0, 1), (2, 4), (3, 5)]), True)
        self.assertIs(is_matching(hall, [(0, 1), (2, 4)]), False)
        self.assertIs(is_matching(hall, [(0, 1), (3, 5)]), False)
        hall.shut_door(1, 5, 5)
        self.assertIs(is_matching(hall, [(0, 1), (2, 4), (3, 5)]), False)
        self.assertIs(is_matching(hall, [(1, 0), (4, 2), (5, 3)]), False)

    def test_two_doors_may_be_answered_by_one(self):
        hall = hall_of([0, 0, 1, 1, 1], [(0, 5, 2), (0, 5, 3), (1, 5, 4)])
        self.assertIs(is_matching(hall, [(0, 1), (2, 4), (3, 4)]), True)
        self.assertIs(is_matching(hall, [(0, 1), (2, 4)]), False)

    def test_a_room_that_leads_to_itself(self):
        hall = hall_of([0, 0, 0], [(0, 5, 0), (1, 5, 2), (2, 5, 1)])
        self.assertIs(is_matching(hall, [(0, 1), (0, 2)]), True)
        self.assertIs(is_matching(hall, [(0, 1)]), False)
        self.assertIs(is_matching(hall, [(0, 0)]), True)

    def test_a_pair_may_stand_there_twice(self):
        hall = hall_of([1, 2, 1, 2], [(0, 5, 1), (2, 5, 3)])
        self.assertIs(is_matching(hall, [(0, 2), (1, 3), (0, 2)]), True)
        self.assertIs(is_matching(hall, [(1, 3), (1, 3), (1, 3)]), True)
        self.assertIs(is_matching(hall, [(0, 2), (0, 2)]), False)

    def test_every_set_of_pairs_of_two_rooms(self):
        everything = list(product(range(2), range(2)))
        for hall in small_halls():
            if hall.size() == 2:
                for chosen in product((False, True), repeat=4):
                    pairs = [pair for pair, taken in zip(everything, chosen) if taken]
                    self.assertIs(is_matching(hall, pairs), slow_is_matching(hall, pairs), (state(hall), pairs))

    def test_pairs_are_neither_changed_nor_kept(self):
        hall = hall_of([1, 2, 1, 2], [(0, 5, 1), (2, 5, 3)])
        pairs = [(0, 2), (1, 3), (0, 2)]
        is_matching(hall, pairs)
        self.assertEqual(pairs, [(0, 2), (1, 3), (0, 2)])
        pairs.append((0, 1))
        self.assertIs(is_matching(hall, pairs), False)
        self.assertEqual(state(hall), ([1, 2, 1, 2], [(0, 5, 1), (2, 5, 3)]))


class RoundsTest(unittest.TestCase):

    def test_one_class_alone(self):
        self.assertEqual(rounds(Hall([7])), [[0]])
        self.assertEqual(rounds(Hall([7, 7, 7])), [[0, 0, 0]])
        self.assertEqual(rounds(hall_of([7, 7], [(0, 1, 1), (1, 1, 0)])), [[0, 0]])
        self.assertEqual(rounds(hall_of([7, 7, 7], [(0, 1, 1), (0, 1, 2), (1, 1, 1), (2, 1, 0)])), [[0, 0, 0]])

    def test_classes_are_numbered_by_their_least_rooms(self):
        self.assertEqual(rounds(Hall([9, 3, 9, 0, 3])), [[0, 1, 0, 2, 1]])

    def test_rounds_that_change_nothing_are_not_told(self):
        hall = hall_of([1, 2, 1], [(0, 5, 1), (2, 5, 1)])
        self.assertEqual(rounds(hall), [[0, 1, 0]])

    def test_a_hall_worked_out_by_hand(self):
        # Behind round 1 the rooms without doors are apart; behind round 2 also those that see none of them.
        hall = hall_of([0] * 5 + [1], [(0, 0, 1), (1, 0, 2), (2, 0, 3), (3, 0, 4), (5, 0, 0)])
        self.assertEqual(rounds(hall), [
            [0, 0, 0, 0, 0, 1],
            [0, 0, 0, 0, 1, 2],
            [0, 0, 0, 1, 2, 3],
            [0, 0, 1, 2, 3, 4],
            [0, 1, 2, 3, 4, 5],
        ])

    def test_names_part_rooms(self):
        hall = hall_of([0, 0, 0, 0], [(0, 1, 3), (1, 2, 3), (2, 1, 3)])
        self.assertEqual(rounds(hall), [[0, 0, 0, 0], [0, 1, 0, 2]])

    def test_how_many_doors_lead_into_one_class_parts_nothing(self):
        hall = hall_of([0, 0, 1, 1], [(0, 5, 2), (0, 5, 3), (1, 5, 2)])
        self.assertEqual(rounds(hall), [[0, 0, 1, 1]])

    def test_the_same_names_into_other_classes_part_rooms(self):
        hall = hall_of([0, 0, 1, 2], [(0, 5, 2), (0, 6, 3), (1, 5, 3), (1, 6, 2)])
        self.assertEqual(rounds(hall), [[0, 0, 1, 2], [0, 1, 2, 3]])

    def test_rooms_once_parted_stay_so(self):
        hall = hall_of([1, 0], [(0, 5, 0), (0, 5, 1), (1, 5, 0), (1, 5, 1)])
        self.assertEqual(rounds(hall), [[0, 1]])

    def test_sixty_rooms_in_a_chain(self):
        told = rounds(chain(60))
        self.assertEqual(len(told), 60)
        self.assertEqual(told[0], [0] * 60)
        self.assertEqual(told[1], [0] * 59 + [1])
        self.assertEqual(told[-1], list(range(60)))

    def test_made_halls_against_the_words_of_the_document(self):
        for start in range(60):
            hall = made_hall(start)
            for r, classes in enumerate(rounds(hall)[:4]):
                for x in range(hall.size()):
                    least = min(y for y in range(hall.size()) if slow_together(hall, r, x, y))
                    self.assertEqual(classes.index(classes[x]), least)

    def test_each_entry_changes_something_and_the_last_is_final(self):
        for start in range(60):
            hall = made_hall(start)
            told = rounds(hall)
            for one, later in zip(told, told[1:]):
                self.assertNotEqual(one, later)
            final = {(x, y) for x, y in product(range(hall.size()), repeat=2) if told[-1][x] == told[-1][y]}
            self.assertEqual(final, slow_alike_pairs(hall))
            for classes in told:
                firsts = [classes.index(number) for number in range(max(classes) + 1)]
                self.assertEqual(firsts, sorted(firsts))

    def test_the_lists_are_fresh(self):
        hall = chain(3)
        told = rounds(hall)
        self.assertEqual(told, [[0, 0, 0], [0, 0, 1], [0, 1, 2]])
        told[0][0] = 9
        self.assertEqual(told[1:], [[0, 0, 1], [0, 1, 2]])
        told.clear()
        self.assertEqual(rounds(hall), [[0, 0, 0], [0, 0, 1], [0, 1, 2]])
        self.assertEqual(state(hall), ([0, 0, 0], [(0, 0, 1), (1, 0, 2)]))

    def test_rounds_are_told_of_the_hall_as_it_is_now(self):
        hall = chain(2)
        self.assertEqual(rounds(hall), [[0, 0], [0, 1]])
        hall.open_door(1, 0, 0)
        self.assertEqual(rounds(hall), [[0, 0]])
        hall.paint(0, 5)
        self.assertEqual(rounds(hall), [[0, 1]])


class AlikeTest(unittest.TestCase):

    def test_rooms_that_nobody_can_tell_apart(self):
        hall = hall_of([0, 0, 0, 1], [(0, 5, 0), (1, 5, 2), (2, 5, 1)])
        self.assertIs(alike(hall, 0, 1), True)
        self.assertIs(alike(hall, 2, 0), True)
        self.assertIs(alike(hall, 0, 3), False)
        self.assertIsNone(parted(hall, 1, 2))
        self.assertEqual(parted(hall, 3, 2), 0)

    def test_the_choice_of_a_way_tells_rooms_apart(self):
        # Room 0 chooses behind its door, room 1 before it: the same walks, yet not alike.
        hall = hall_of([0] * 6, [(0, 1, 2), (2, 2, 5), (2, 3, 5), (1, 1, 3), (1, 1, 4), (3, 2, 5), (4, 3, 5)])
        self.assertIs(alike(hall, 0, 1), False)
        self.assertEqual(parted(hall, 0, 1), 2)
        self.assertIsNone(matching(hall, 0, 1))

    def test_each_round_that_parts(self):
        hall = chain(6)
        for a, b in product(range(6), repeat=2):
            wanted = None if a == b else 6 - max(a, b)
            self.assertEqual(parted(hall, a, b), wanted)
        hall.paint(2, 1)
        self.assertEqual(parted(hall, 2, 5), 0)
        self.assertEqual(parted(hall, 1, 4), 1)

    def test_a_room_against_itself(self):
        for hall in (Hall([3]), chain(60), hall_of([0, 1], [(0, 1, 0), (0, 1, 1)])):
            for a in (0, hall.size() - 1):
                self.assertIs(alike(hall, a, a), True)
                self.assertIsNone(parted(hall, a, a))
                self.assertIn((a, a), matching(hall, a, a))
                self.assertTrue(is_matching(hall, matching(hall, a, a)))

    def test_every_small_hall(self):
        for hall in small_halls():
            self.assert_as_the_document_says(hall)

    def test_made_halls(self):
        for start in range(100, 140):
            self.assert_as_the_document_says(made_hall(start))

    def assert_as_the_document_says(self, hall):
        wanted = slow_alike_pairs(hall)
        told = rounds(hall)
        for a, b in product(range(hall.size()), repeat=2):
            same = (a, b) in wanted
            self.assertIs(alike(hall, a, b), same)
            parting = [r for r, classes in enumerate(told) if classes[a] != classes[b]]
            self.assertEqual(parted(hall, a, b), None if same else parting[0])
            pairs = matching(hall, a, b)
            if same:
                self.assertIn((a, b), pairs)
                self.assertTrue(slow_is_matching(hall, pairs))
                self.assertIs(is_matching(hall, pairs), True)
            else:
                self.assertIsNone(pairs)

    def test_a_matching_is_a_fresh_list_of_tuples(self):
        hall = hall_of([0, 0], [(0, 5, 1), (1, 5, 0)])
        pairs = matching(hall, 0, 1)
        self.assertIs(type(pairs), list)
        self.assertTrue(all(type(pair) is tuple and len(pair) == 2 for pair in pairs))
        pairs.clear()
        self.assertIn((0, 1), matching(hall, 0, 1))
        self.assertEqual(state(hall), ([0, 0], [(0, 5, 1), (1, 5, 0)]))

    def test_a_hall_beside_itself_has_each_room_twice(self):
        for start in range(20):
            hall = made_hall(start)
            both = beside(hall, hall)
            for a in range(hall.size()):
                self.assertIs(alike(both, a, a + hall.size()), True)


class NoRoomTest(RefusalCase):

    def assert_no_room(self, call, *handed):
        self.assert_refused(NoRoom, call, *handed)

    def test_in_each_place(self):
        hall = hall_of([0, 0, 1], [(0, 5, 1), (1, 5, 0)])
        before = state(hall)
        for wrong in (-1, -3, -100, 3, 4, 10 ** 30):
            for call in (alike, matching, parted):
                self.assert_no_room(call, hall, wrong, 0)
                self.assert_no_room(call, hall, 0, wrong)
                self.assert_no_room(call, hall, wrong, wrong)
            self.assert_no_room(is_matching, hall, [(wrong, 0)])
            self.assert_no_room(is_matching, hall, [(0, wrong)])
            self.assert_no_room(is_matching, hall, [(wrong, wrong)])
        self.assertEqual(state(hall), before)

    def test_ahead_of_the_answer_of_an_earlier_pair(self):
        hall = hall_of([0, 1], [(0, 5, 1)])
        self.assert_no_room(is_matching, hall, [(0, 1), (0, 2)])
        self.assert_no_room(is_matching, hall, [(0, 1), (-1, 0)])
        self.assert_no_room(is_matching, hall, [(0, 0), (1, 1), (0, 1), (2, 0)])

    def test_in_the_smallest_and_the_largest_hall(self):
        for size in (1, 60):
            hall = Hall([0] * size)
            for wrong in (-1, size):
                self.assert_no_room(alike, hall, 0, wrong)
                self.assert_no_room(parted, hall, wrong, size - 1)
            self.assertIs(alike(hall, 0, size - 1), True)


class ClassesAndRowsTest(unittest.TestCase):

    def test_rooms_of_one_class_agree_on_rows_of_that_depth(self):
        for start in range(60):
            hall = made_hall(start)
            sheet = made_sheet(start, 120)
            told = rounds(hall)
            for depth, rooms in zip(depths(sheet), rooms_of(hall, sheet)):
                classes = told[min(depth, len(told) - 1)]
                holding = {classes[a] for a in rooms}
                self.assertEqual(rooms, [a for a in range(hall.size()) if classes[a] in holding])

    def test_alike_rooms_agree_on_every_row(self):
        for start in range(20):
            one = made_hall(start)
            both = beside(one, one)
            for rooms in rooms_of(both, made_sheet(start, 300)):
                for a in range(one.size()):
                    self.assertEqual(a in rooms, a + one.size() in rooms)

    def test_rows_of_each_depth_tell_just_the_classes_apart(self):
        for start in range(30):
            hall = made_hall(start)
            writer = Writer(hall)
            places = writer.colours_told()
            for r, classes in enumerate(rounds(hall)):
                if r > 0:
                    places = writer.deeper(places)
                rooms = rooms_of(hall, writer.rows)
                row_depths = depths(writer.rows)
                for a, place in enumerate(places):
                    self.assertEqual(rooms[place], [b for b, number in enumerate(classes) if number == classes[a]])
                # A room without doors is told in few rows, yet what a round parts wants that depth somewhere.
                self.assertEqual(max(row_depths[place] for place in places), r)


if __name__ == "__main__":
    unittest.main()
