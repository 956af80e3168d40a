"""Point [11], and the interface of twinrooms/notes.py."""

import re
import unittest

from tests.made import RefusalCase, chain, full_hall, hall_of, large_hall, made_hall, ring, state
from twinrooms.errors import BadNote, HallError
from twinrooms.halls import Hall
from twinrooms.notes import read, shown

NUMBER = "(?:0|[1-9][0-9]{0,2})"
NOTE = re.compile(f"rooms(?: {NUMBER}){{1,60}}\n(?:door {NUMBER} {NUMBER} {NUMBER}\n){{0,400}}")
SIGNS = "\t\n" + "".join(chr(code) for code in range(32, 127) if chr(code) != "%")


def slow_read(text):
    """The state of the hall that a text tells, None where it is to be refused."""
    if NOTE.fullmatch(text) is None:
        return None
    first, *others = text.splitlines()
    colours = [int(word) for word in first.split()[1:]]
    doors = [tuple(int(word) for word in line.split()[1:]) for line in others]
    rooms = range(len(colours))
    if len(set(doors)) < len(doors) or not all(a in rooms and b in rooms for a, _, b in doors):
        return None
    return colours, sorted(doors)


class NotesCase(RefusalCase):

    def assert_bad(self, *texts):
        for text in texts:
            with self.subTest(text[:80]):
                self.assertIsNone(slow_read(text))
                self.assert_refused(BadNote, read, text)

    def assert_read(self, text, colours, doors):
        hall = read(text)
        self.assertIsInstance(hall, Hall)
        self.assertEqual(state(hall), (colours, doors))


class ShownTest(NotesCase):

    def test_rooms_and_doors(self):
        hall = hall_of([5, 0, 999], [(2, 7, 0), (0, 999, 1), (0, 0, 2)])
        self.assertEqual(shown(hall), "rooms 5 0 999\ndoor 0 0 2\ndoor 0 999 1\ndoor 2 7 0\n")

    def test_doors_are_sorted_as_numbers(self):
        hall = hall_of([0] * 12, [(2, 0, 1), (0, 10, 1), (0, 9, 11), (0, 9, 2), (11, 0, 0), (2, 0, 0)])
        self.assertEqual(
            shown(hall),
            "rooms 0 0 0 0 0 0 0 0 0 0 0 0\n"
            "door 0 9 2\ndoor 0 9 11\ndoor 0 10 1\ndoor 2 0 0\ndoor 2 0 1\ndoor 11 0 0\n",
        )

    def test_one_room(self):
        self.assertEqual(shown(Hall([0])), "rooms 0\n")
        self.assertEqual(shown(hall_of([10], [(0, 100, 0)])), "rooms 10\ndoor 0 100 0\n")

    def test_a_hall_without_doors(self):
        self.assertEqual(shown(Hall([1, 1])), "rooms 1 1\n")

    def test_sixty_rooms_and_400_doors(self):
        self.assertEqual(shown(Hall([999] * 60)), "rooms" + " 999" * 60 + "\n")
        lines = shown(full_hall()).split("\n")
        self.assertEqual(len(lines), 402)
        self.assertEqual(lines[:3], ["rooms" + " 0" * 20, "door 0 7 0", "door 0 7 1"])
        self.assertEqual(lines[-2:], ["door 19 7 19", ""])

    def test_the_hall_as_it_is_now_which_stays_so(self):
        hall = hall_of([1, 2], [(0, 1, 1)])
        self.assertEqual(shown(hall), "rooms 1 2\ndoor 0 1 1\n")
        hall.paint(0, 3)
        hall.shut_door(0, 1, 1)
        self.assertEqual(shown(hall), "rooms 3 2\n")
        self.assertEqual(state(hall), ([3, 2], []))


class ReadTest(NotesCase):

    def test_rooms_and_doors(self):
        self.assert_read("rooms 5 0 999\ndoor 0 0 2\ndoor 0 999 1\n", [5, 0, 999], [(0, 0, 2), (0, 999, 1)])

    def test_doors_in_any_order(self):
        text = "rooms 5 6\ndoor 1 7 0\ndoor 0 10 1\ndoor 0 9 1\ndoor 0 9 0\n"
        self.assert_read(text, [5, 6], [(0, 9, 0), (0, 9, 1), (0, 10, 1), (1, 7, 0)])

    def test_one_room(self):
        self.assert_read("rooms 0\n", [0], [])
        self.assert_read("rooms 999\ndoor 0 0 0\ndoor 0 999 0\n", [999], [(0, 0, 0), (0, 999, 0)])

    def test_noughts_that_are_needed(self):
        self.assert_read("rooms 10 100 0 900\ndoor 0 100 3\n", [10, 100, 0, 900], [(0, 100, 3)])

    def test_sixty_rooms(self):
        self.assert_read("rooms" + " 999" * 60 + "\ndoor 59 0 59\n", [999] * 60, [(59, 0, 59)])

    def test_400_doors(self):
        text = "rooms 0\n" + "".join(f"door 0 {name} 0\n" for name in range(400))
        self.assert_read(text, [0], [(0, name, 0) for name in range(400)])

    def test_a_hall_written_and_read_again(self):
        halls = [made_hall(start) for start in range(60)]
        halls += [Hall([0]), chain(60), ring(60), full_hall(), large_hall(1, 400, 900)]
        for hall in halls:
            before = state(hall)
            again = read(shown(hall))
            self.assertEqual(state(again), before)
            self.assertEqual(shown(again), shown(hall))
            self.assertEqual(state(hall), before)

    def test_a_hall_that_was_read_is_a_hall_like_others(self):
        text = "rooms 1 2\ndoor 0 1 1\n"
        hall = read(text)
        hall.paint(0, 9)
        hall.open_door(1, 1, 0)
        hall.shut_door(0, 1, 1)
        self.assertEqual(shown(hall), "rooms 9 2\ndoor 1 1 0\n")
        self.assertEqual(shown(read(text)), text)

    def test_neither_hall_hangs_on_the_other(self):
        hall = hall_of([1, 2], [(0, 1, 1)])
        again = read(shown(hall))
        hall.paint(0, 7)
        again.open_door(1, 5, 1)
        self.assertEqual(state(again), ([1, 2], [(0, 1, 1), (1, 5, 1)]))
        self.assertEqual(state(hall), ([7, 2], [(0, 1, 1)]))


class BadNoteTest(NotesCase):

    def test_no_text_and_no_line_end(self):
        self.assert_bad("", "rooms 1", "rooms 1 2\ndoor 0 1 1", "rooms", "door 0 0 0", "1", " ")

    def test_empty_lines(self):
        self.assert_bad("\n", "\n\n", "\nrooms 1\n", "rooms 1\n\n", "rooms 1\n\ndoor 0 0 0\n")
        self.assert_bad("rooms 1\ndoor 0 0 0\n\n", "rooms 1\n \n", "rooms 1\n\t\n", " \nrooms 1\n")

    def test_a_blank_or_a_tab_too_many_at_any_place(self):
        text = "rooms 1 2\ndoor 0 3 1\ndoor 1 0 0\n"
        for extra in (" ", "  ", "\t", " \t"):
            for place in range(len(text) + 1):
                self.assert_bad(text[:place] + extra + text[place:])
        self.assert_bad(text.replace(" ", "\t"), text.replace(" ", "  "), text.replace("\n", " \n"))

    def test_blanks_that_lack(self):
        self.assert_bad("rooms1\n", "rooms 1\ndoor0 0 0\n", "rooms 1\ndoor 00 0\n", "rooms 1\ndoor 000\n")

    def test_needless_noughts(self):
        self.assert_bad("rooms 00\n", "rooms 01\n", "rooms 001\n", "rooms 010\n", "rooms 000\n", "rooms 0999\n")
        self.assert_bad("rooms 1\ndoor 00 0 0\n", "rooms 1\ndoor 0 01 0\n", "rooms 1\ndoor 0 0 00\n")

    def test_signs_ahead_of_numbers_and_other_ways_to_write_them(self):
        for number in ("-0", "+0", "-1", "+1", "--1", "1-", "1.", "1.0", "1e1", "0x1", "1_0", "1,", "a", "I", "", "'1'"):
            self.assert_bad(f"rooms {number}\n", f"rooms 0 {number}\n", f"rooms 0 0\ndoor {number} 0 0\n")
            self.assert_bad(f"rooms 0 0\ndoor 0 {number} 0\n", f"rooms 0 0\ndoor 0 0 {number}\n")

    def test_numbers_above_999(self):
        for number in ("1000", "1001", "9990", "10000", "9" * 30, "9" * 4300, "9" * 5000, "1" + "0" * 19000, "0" * 9000):
            self.assert_bad(f"rooms {number}\n", f"rooms 0\ndoor {number} 0 0\n")
            self.assert_bad(f"rooms 0\ndoor 0 {number} 0\n", f"rooms 0\ndoor 0 0 {number}\n")

    def test_no_colour_behind_rooms(self):
        self.assert_bad("rooms\n", "rooms \n", "rooms\ndoor 0 0 0\n", "rooms\n1\n")

    def test_61_rooms(self):
        self.assert_bad("rooms" + " 0" * 61 + "\n", "rooms" + " 0" * 9000 + "\n")

    def test_401_doors(self):
        doors = [f"door {a} 0 {b}\n" for a in range(60) for b in range(7)]
        self.assert_bad("rooms" + " 0" * 60 + "\n" + "".join(doors[:401]))
        self.assertEqual(len(read("rooms" + " 0" * 60 + "\n" + "".join(doors[:400])).doors()), 400)
        full = shown(full_hall())
        self.assert_bad(full + "door 0 8 0\n", full + "door 0 7 0\n", full + "door 20 7 0\n")

    def test_a_door_told_twice(self):
        self.assert_bad("rooms 1\ndoor 0 0 0\ndoor 0 0 0\n", "rooms 1 1\ndoor 0 5 1\ndoor 1 5 0\ndoor 0 5 1\n")
        self.assert_bad("rooms 0\n" + "door 0 0 0\n" * 1800)

    def test_a_room_that_is_not_there(self):
        self.assert_bad("rooms 1\ndoor 1 0 0\n", "rooms 1\ndoor 0 0 1\n", "rooms 1\ndoor 1 0 1\n")
        self.assert_bad("rooms 1 1\ndoor 0 0 0\ndoor 0 0 2\n", "rooms 1 1\ndoor 2 0 0\n", "rooms 1\ndoor 999 0 0\n")
        self.assert_bad("rooms 1 1\ndoor -1 0 0\n", "rooms 1 1\ndoor 0 0 -2\n")

    def test_lines_out_of_place(self):
        self.assert_bad("door 0 0 0\n", "door 0 0 0\nrooms 1\n", "rooms 1\nrooms 1\n", "rooms 1\ndoor 0 0 0\nrooms 1\n")
        self.assert_bad("rooms 1\nrooms 0 0 0\n", "door 0 0 0\ndoor 0 0 0\n", "1\n", "1 2\n", "rooms 1\n0 0 0\n")

    def test_words_in_other_letters_and_other_words(self):
        self.assert_bad("Rooms 1\n", "ROOMS 1\n", "room 1\n", "roomss 1\n", "rooms: 1\n", "rooms rooms 1\n", "x\n")
        for word in ("Door", "DOOR", "doors", "doo", "door:", "rooms", "gate", "#", "0"):
            self.assert_bad(f"rooms 1\n{word} 0 0 0\n", f"rooms 1\n{word}\n")

    def test_a_door_with_too_few_or_too_many_words(self):
        for words in ("door", "door 0", "door 0 0", "door 0 0 0 0", "door 0 0 0 door", "door door 0 0 0", "door 0 0 x 0"):
            self.assert_bad(f"rooms 1\n{words}\n", f"rooms 1\ndoor 0 5 0\n{words}\n")

    def test_other_signs(self):
        # Such signs are promised not to come; they are no notes all the same.
        self.assert_bad("rooms 1\r\n", "rooms 1\r", "rooms 1\x0bdoor 0 0 0\n", "rooms 1\ndoor 0 0 0\x0c\n")
        self.assert_bad("rooms \u0661\n", "rooms \u00b2\n", "rooms\u00a01\n", "rooms 1\u2028", "rooms 1\x00\n", "rooms %\n")

    def test_long_texts_of_one_sign(self):
        for sign in SIGNS:
            self.assert_bad(sign * 20000, "rooms " + sign * 19000 + "\n")

    def test_every_text_one_sign_away_from_a_note(self):
        # A sign put in, taken out or changed at each place: some of these texts are notes, most are not.
        taken = 0
        for text in ("rooms 10 9\ndoor 0 99 1\ndoor 1 0 0\n", "rooms 7 0 400\ndoor 2 10 2\ndoor 2 1 2\n"):
            texts = [text[:place] + text[place + 1:] for place in range(len(text))]
            for place in range(len(text) + 1):
                texts.extend(text[:place] + sign + text[place:] for sign in SIGNS)
                texts.extend(text[:place] + sign + text[place + 1:] for sign in SIGNS)
            for changed in texts:
                wanted = slow_read(changed)
                if wanted is None:
                    self.assert_refused(BadNote, read, changed)
                else:
                    self.assertEqual(state(read(changed)), wanted)
                    taken += 1
        self.assertGreater(taken, 100)

    def test_a_bad_note_is_a_hall_error_and_a_value_error(self):
        for error in (BadNote, HallError, ValueError):
            with self.assertRaises(error):
                read("rooms 1\ndoor 0 0 1\n")


if __name__ == "__main__":
    unittest.main()
