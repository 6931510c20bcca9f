"""The refusals of the program."""


class HearsayError(ValueError):
    """Whatever the program refuses."""


class NoText(HearsayError):
    """A text that isn't written as it must be."""


class NoLine(HearsayError):
    """A line that the desk doesn't know."""


class BadDoings(HearsayError):
    """A row in which something stands that can't be done there."""

    def __init__(self, turn):
        HearsayError.__init__(self, f"what stands at {turn} in the row can't be done there")
        self.turn = turn
