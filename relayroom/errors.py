"""The refusals of the program."""


class RoomError(ValueError):
    pass


class TooMany(RoomError):
    pass


class Deep(RoomError):
    pass


class NoContact(RoomError):
    pass


class NoRelay(RoomError):
    pass


class Still(RoomError):
    pass


class NoNote(RoomError):
    pass
