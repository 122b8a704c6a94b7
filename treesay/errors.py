"""The refusals of the program, one class for each."""


class SayError(ValueError):
    pass


class NoStand(SayError):
    pass


class NoStep(SayError):
    pass


class NoMark(SayError):
    pass


class NoText(SayError):
    pass


class NoFold(SayError):
    pass
