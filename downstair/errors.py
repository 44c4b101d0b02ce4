"""The refusals of the program."""


class StairError(ValueError):
    pass


class NoMachine(StairError):
    pass


class NoNote(StairError):
    pass
