"""The refusals of the program."""


class AskError(ValueError):
    pass


class NoBook(AskError):
    pass


class NoAsking(AskError):
    pass


class Unlike(AskError):
    pass


class NoTree(AskError):
    pass


class NoRules(AskError):
    pass


class NoBonds(AskError):
    pass


class NoColumns(AskError):
    pass


class NoText(AskError):
    pass
