"""The refusals of the program, one class for each."""


# Whoever asks can take any refusal by this one class.
class ForgeError(ValueError):
    pass


class NoText(ForgeError):
    pass


class NoName(ForgeError):
    pass


class NoWorth(ForgeError):
    pass


class NoRule(ForgeError):
    pass


class NoThing(ForgeError):
    pass


class NoStep(ForgeError):
    pass


class NoRow(ForgeError):
    pass
