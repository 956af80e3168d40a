"""Notes: halls written as texts and read again."""

from twinrooms.errors import BadNote, HallError
from twinrooms.halls import Hall, colours_of

FIGURES = "0123456789"
MOST_FIGURES = 3


def shown(hall):
    lines = [line_of("rooms", colours_of(hall))]
    for door in hall.doors():
        lines.append(line_of("door", door))
    return "".join(lines)


def line_of(word, numbers):
    return " ".join([word] + [str(number) for number in numbers]) + "\n"


def read(text):
    lines = text.split("\n")
    # A text that ends in a line end leaves nothing behind it.
    if lines.pop() != "":
        raise BadNote("the last line lacks its line end")
    if len(lines) == 0:
        raise BadNote("there is no line")
    hall = read_rooms(lines[0])
    for line in lines[1:]:
        read_door(hall, line)
    return hall


def read_rooms(line):
    colours = numbers_behind("rooms", line)
    try:
        return Hall(colours)
    except HallError:
        raise BadNote("no room, or more rooms than a hall has") from None


def read_door(hall, line):
    numbers = numbers_behind("door", line)
    if len(numbers) != 3:
        raise BadNote(f"a door has three numbers: {line!r}")
    try:
        hall.open_door(numbers[0], numbers[1], numbers[2])
    except HallError:
        raise BadNote(f"the hall refuses {line!r}: no such room, told twice, or too many doors") from None


def numbers_behind(word, line):
    # Split at each single blank, so that a blank too many leaves an empty word, which is no number.
    words = line.split(" ")
    if words[0] != word:
        raise BadNote(f"{line!r} does not begin with {word}")
    return [number_of(figures) for figures in words[1:]]


def number_of(figures):
    # Counted first: the greatest number has three figures, and int may refuse very many in its own way.
    if len(figures) < 1 or len(figures) > MOST_FIGURES:
        raise BadNote(f"{figures!r} is no number from 0 to 999")
    for sign in figures:
        # Not isdigit: it takes the figures of other scripts too.
        if sign not in FIGURES:
            raise BadNote(f"{figures!r} is no number from 0 to 999")
    if figures[0] == "0" and len(figures) > 1:
        raise BadNote(f"{figures!r} has a needless nought")
    return int(figures)
