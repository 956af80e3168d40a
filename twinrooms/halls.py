"""Halls: rooms with colours, and the named doors between them."""

from twinrooms.errors import DoorThere, NoDoor, NoRoom, TooMany

MOST_ROOMS = 60
MOST_DOORS = 400


class Hall:

    def __init__(self, colours):
        if len(colours) < 1 or len(colours) > MOST_ROOMS:
            raise TooMany(f"a hall has 1 to {MOST_ROOMS} rooms")
        self.colours = list(colours)
        self.door_table = {}

    def size(self):
        return len(self.colours)

    def check_room(self, a):
        # A number below nought would otherwise count from the list's end.
        if a < 0 or a >= len(self.colours):
            raise NoRoom(f"there is no room {a}")

    def colour(self, a):
        self.check_room(a)
        return self.colours[a]

    def paint(self, a, colour):
        self.check_room(a)
        self.colours[a] = colour

    def open_door(self, a, name, b):
        self.check_room(a)
        self.check_room(b)
        if (a, name, b) in self.door_table:
            raise DoorThere(f"door {name} from {a} to {b} is there")
        if len(self.door_table) >= MOST_DOORS:
            raise TooMany(f"a hall has at most {MOST_DOORS} doors")
        self.door_table[(a, name, b)] = True

    def shut_door(self, a, name, b):
        self.check_room(a)
        self.check_room(b)
        if (a, name, b) not in self.door_table:
            raise NoDoor(f"door {name} from {a} to {b} is not there")
        self.door_table.pop((a, name, b))

    def doors(self):
        return sorted(self.door_table)

    def names(self, a):
        self.check_room(a)
        return sorted(set([door[1] for door in self.door_table if door[0] == a]))

    def ways(self, a, name):
        self.check_room(a)
        return sorted([door[2] for door in self.door_table if door[0] == a and door[1] == name])


def beside(one, other):
    # Hall and open_door refuse what is too many, and the two halls' doors never meet.
    hall = Hall(colours_of(one) + colours_of(other))
    raised = one.size()
    for a, name, b in one.doors():
        hall.open_door(a, name, b)
    for a, name, b in other.doors():
        hall.open_door(raised + a, name, raised + b)
    return hall


def colours_of(hall):
    return [hall.colour(a) for a in range(hall.size())]


def exits_of(hall):
    # Gathered once, so that walks over many pairs of rooms don't search all doors for each.
    exits = [[] for a in range(hall.size())]
    for a, name, b in hall.doors():
        exits[a].append((name, b))
    return exits
