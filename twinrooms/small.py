"""The smallest hall: one room for each class of alike rooms."""

from twinrooms.alike import rounds
from twinrooms.halls import Hall


def classes(hall):
    # The rounds number classes by their least rooms, which is the order of the smallest hall's rooms.
    return rounds(hall)[-1]


def smallest(hall):
    numbers = classes(hall)
    colours = []
    for a, number in enumerate(numbers):
        if number == len(colours):
            colours.append(hall.colour(a))
    small = Hall(colours)
    doors = [(numbers[a], name, numbers[b]) for a, name, b in hall.doors()]
    for a, name, b in sorted(set(doors)):
        small.open_door(a, name, b)
    return small
