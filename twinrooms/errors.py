"""The refusals: each of its own class, all of them under HallError."""


class HallError(ValueError):
    pass


class NoRoom(HallError):
    pass


class NoDoor(HallError):
    pass


class DoorThere(HallError):
    pass


class TooMany(HallError):
    pass


class BadSheet(HallError):
    pass


class BadNote(HallError):
    pass
