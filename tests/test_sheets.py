"""Points [3] and [4], and the interface of twinrooms/sheets.py."""

import unittest

from tests.made import hall_of, made_hall, made_sheet, state
from twinrooms.errors import BadSheet, HallError
from twinrooms.halls import Hall
from twinrooms.sheets import bright, depths, rooms_of


def slow_holds(hall, sheet, k, a):
    row = sheet[k]
    if row[0] == "colour":
        return hall.colour(a) == row[1]
    if row[0] == "not":
        return not slow_holds(hall, sheet, row[1], a)
    if row[0] == "both":
        return slow_holds(hall, sheet, row[1], a) and slow_holds(hall, sheet, row[2], a)
    if row[0] == "some":
        return any(slow_holds(hall, sheet, row[2], b) for b in hall.ways(a, row[1]))
    return True


class RoomsOfTest(unittest.TestCase):

    def setUp(self):
        # Several doors of one name from room 0, one from room 2 to itself.
        self.hall = hall_of([1, 2, 1, 3], [(0, 5, 1), (0, 5, 3), (0, 6, 2), (1, 5, 0), (2, 5, 2), (3, 6, 1)])

    def test_colour(self):
        told = rooms_of(self.hall, [("colour", 1), ("colour", 2), ("colour", 7), ("colour", 0)])
        self.assertEqual(told, [[0, 2], [1], [], []])

    def test_any(self):
        self.assertEqual(rooms_of(self.hall, [("any",)]), [[0, 1, 2, 3]])

    def test_not(self):
        told = rooms_of(self.hall, [("colour", 1), ("not", 0), ("not", 1), ("any",), ("not", 3)])
        self.assertEqual(told, [[0, 2], [1, 3], [0, 2], [0, 1, 2, 3], []])

    def test_both(self):
        sheet = [("colour", 1), ("some", 6, 0), ("both", 0, 1), ("both", 1, 0), ("both", 0, 0), ("colour", 2)]
        sheet.append(("both", 5, 0))
        self.assertEqual(rooms_of(self.hall, sheet), [[0, 2], [0], [0], [0], [0, 2], [1], []])

    def test_some(self):
        sheet = [("colour", 2), ("some", 5, 0), ("some", 6, 0), ("colour", 3), ("some", 5, 3), ("some", 9, 0)]
        self.assertEqual(rooms_of(self.hall, sheet), [[1], [0], [3], [3], [0], []])
        sheet = [("any",), ("some", 5, 0), ("some", 6, 0), ("some", 5, 1), ("some", 5, 2), ("not", 0), ("some", 5, 5)]
        self.assertEqual(rooms_of(self.hall, sheet), [[0, 1, 2, 3], [0, 1, 2], [0, 3], [0, 1, 2], [0, 1], [], []])

    def test_a_sheet_of_one_row(self):
        self.assertEqual(rooms_of(Hall([4]), [("any",)]), [[0]])
        self.assertEqual(rooms_of(Hall([4]), [("colour", 4)]), [[0]])
        self.assertEqual(rooms_of(Hall([4]), [("colour", 3)]), [[]])

    def test_sixty_rooms(self):
        hall = hall_of([a % 2 for a in range(60)], [(a, 0, a + 1) for a in range(59)])
        told = rooms_of(hall, [("colour", 1), ("some", 0, 0), ("not", 1)])
        self.assertEqual(told, [list(range(1, 60, 2)), list(range(0, 59, 2)), list(range(1, 60, 2))])

    def test_colours_and_doors_are_told_as_they_are_now(self):
        sheet = [("colour", 2), ("some", 5, 0)]
        self.assertEqual(rooms_of(self.hall, sheet), [[1], [0]])
        self.hall.paint(0, 2)
        self.hall.shut_door(0, 5, 1)
        self.assertEqual(rooms_of(self.hall, sheet), [[0, 1], [1]])

    def test_made_halls_against_the_words_of_the_document(self):
        for start in range(40):
            hall = made_hall(start)
            sheet = made_sheet(start, 14)
            wanted = [
                [a for a in range(hall.size()) if slow_holds(hall, sheet, k, a)] for k in range(len(sheet))
            ]
            self.assertEqual(rooms_of(hall, sheet), wanted)

    def test_a_chain_of_tens_of_thousands(self):
        hall = hall_of([0, 1], [(0, 3, 1), (1, 3, 0)])
        sheet = [("colour", 0)] + [("some", 3, k) for k in range(49999)]
        told = rooms_of(hall, sheet)
        self.assertEqual(len(told), 50000)
        self.assertEqual(told[:3], [[0], [1], [0]])
        self.assertEqual(told[-2:], [[0], [1]])
        sheet = [("colour", 0)] + [("not", k) for k in range(29999)]
        self.assertEqual(rooms_of(hall, sheet)[-2:], [[0], [1]])
        sheet = [("colour", 0)] + [("both", k, k) for k in range(29999)]
        self.assertEqual(rooms_of(hall, sheet)[-2:], [[0], [0]])

    def test_nothing_handed_in_is_changed(self):
        sheet = [("any",), ("not", 0), ("both", 0, 1), ("some", 5, 0), ("colour", 1)]
        kept = list(sheet)
        before = state(self.hall)
        rooms_of(self.hall, sheet)
        depths(sheet)
        bright(sheet)
        self.assertEqual(sheet, kept)
        self.assertEqual(state(self.hall), before)

    def test_the_lists_handed_back_are_fresh(self):
        sheet = [("any",), ("any",), ("both", 0, 0), ("both", 0, 1), ("colour", 1), ("colour", 1)]
        wanted = [[0, 1, 2, 3]] * 4 + [[0, 2]] * 2
        told = rooms_of(self.hall, sheet)
        self.assertEqual(told, wanted)
        self.assertEqual(len({id(rooms) for rooms in told}), len(sheet))
        told[0].append(9)
        told[4].clear()
        self.assertEqual(told[1:4], wanted[1:4])
        self.assertEqual(told[5], [0, 2])
        told.clear()
        self.assertEqual(rooms_of(self.hall, sheet), wanted)


class DepthsTest(unittest.TestCase):

    def test_each_kind(self):
        sheet = [
            ("colour", 8), ("any",), ("some", 9, 0), ("not", 2), ("some", 9, 3), ("both", 4, 2), ("both", 0, 4),
            ("both", 0, 1), ("not", 1), ("some", 0, 6), ("colour", 9), ("both", 9, 9),
        ]
        self.assertEqual(depths(sheet), [0, 0, 1, 1, 2, 2, 2, 0, 0, 3, 0, 3])

    def test_a_sheet_of_one_row(self):
        self.assertEqual(depths([("any",)]), [0])
        self.assertEqual(depths([("colour", 5)]), [0])

    def test_a_chain_of_tens_of_thousands(self):
        sheet = [("any",)] + [("some", 3, k) for k in range(49999)]
        # Not assertEqual: it would set out the difference of lists this long at great length.
        self.assertTrue(depths(sheet) == list(range(50000)))
        sheet = [("any",), ("some", 3, 0)] + [("not", k) for k in range(1, 40000)]
        self.assertTrue(depths(sheet) == [0] + [1] * 40000)

    def test_the_list_is_fresh(self):
        sheet = [("any",), ("some", 1, 0)]
        depths(sheet).append(5)
        self.assertEqual(depths(sheet), [0, 1])


class BadSheetTest(unittest.TestCase):

    def assert_bad(self, sheet):
        hall = hall_of([0, 1], [(0, 1, 1)])
        kept = list(sheet)
        for call in (lambda: rooms_of(hall, sheet), lambda: depths(sheet)):
            with self.assertRaises(HallError) as caught:
                call()
            self.assertIs(type(caught.exception), BadSheet)
            self.assertIsInstance(caught.exception, ValueError)
        self.assertEqual(sheet, kept)
        self.assertEqual(state(hall), ([0, 1], [(0, 1, 1)]))

    def test_its_own_place_a_later_one_and_one_below_nought(self):
        for k in (1, 2, 3, 1000, -1, -2, -3, -1000):
            for row in (("not", k), ("both", k, 0), ("both", 0, k), ("both", k, k), ("some", 1, k)):
                with self.subTest(row):
                    self.assert_bad([("any",), row, ("any",)])
                    self.assert_bad([("any",), row])

    def test_in_the_first_row(self):
        for k in (0, 1, -1):
            for row in (("not", k), ("both", k, k), ("some", 1, k)):
                self.assert_bad([row])
                self.assert_bad([row, ("any",)])

    def test_in_the_last_row_and_where_no_door_has_the_name(self):
        self.assert_bad([("any",), ("colour", 1), ("some", 77, 2)])
        self.assert_bad([("any",), ("colour", 1), ("some", 77, -1)])

    def test_numbers_of_colours_and_names_are_no_places(self):
        hall = hall_of([0, 900], [(0, 900, 1)])
        sheet = [("colour", 900), ("some", 900, 0)]
        self.assertEqual(rooms_of(hall, sheet), [[1], [0]])
        self.assertEqual(depths(sheet), [0, 1])

    def test_the_row_just_ahead_may_be_named(self):
        sheet = [("any",), ("not", 0), ("both", 1, 1), ("some", 1, 2)]
        self.assertEqual(depths(sheet), [0, 0, 0, 1])


class BrightTest(unittest.TestCase):

    def test_without_a_not(self):
        self.assertIs(bright([("any",)]), True)
        self.assertIs(bright([("colour", 3), ("any",), ("both", 0, 1), ("some", 2, 2)]), True)

    def test_with_a_not_wherever_it_stands(self):
        self.assertIs(bright([("any",), ("not", 0)]), False)
        self.assertIs(bright([("any",), ("not", 0), ("any",)]), False)
        self.assertIs(bright([("any",), ("not", 0), ("not", 1), ("both", 2, 2)]), False)

    def test_a_long_sheet(self):
        sheet = [("any",)] + [("both", k, k) for k in range(39999)]
        self.assertIs(bright(sheet), True)
        self.assertIs(bright(sheet + [("not", 0)]), False)


if __name__ == "__main__":
    unittest.main()
