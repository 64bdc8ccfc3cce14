"""The refusals. Each has a class of its own, and all of them stand under YardError."""


class YardError(ValueError):
    pass


class NoWord(YardError):
    pass


class TooLong(YardError):
    pass


class NoOrder(YardError):
    pass


class TooMany(YardError):
    def __init__(self, made, rows):
        # Words of its own, for else Python would keep and show the very list that was handed in.
        YardError.__init__(self, f"{made} rooms were made, and there are gaps left")
        self.made = made
        self.rows = list(rows)


class TooGreat(YardError):
    pass
