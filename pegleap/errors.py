"""The refusals of the program, all of them under PegError."""


class PegError(ValueError):
    pass


class BadBoard(PegError):
    pass


class BadPegs(PegError):
    pass


class NoLeap(PegError):
    # `at` is the place, in the row that was handed in, of the first leap that can't be done.
    def __init__(self, at):
        PegError.__init__(self, f"the leap at {at} can't be done")
        self.at = at


class BadWeights(PegError):
    pass
