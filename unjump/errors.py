"""The refusals of the program, each with a class of its own."""


# A row is a number of lines of a text that was read; it is None with every refusal that isn't about a line.
class JumpError(ValueError):
    def __init__(self, row=None):
        self.row = row


class ByNought(JumpError):
    pass


class NoRow(JumpError):
    pass


class NoJump(JumpError):
    pass


class NoEnd(JumpError):
    pass


class TooGreat(JumpError):
    pass


class NoForm(JumpError):
    pass


class TwoWays(JumpError):
    pass


class NoWay(JumpError):
    pass
