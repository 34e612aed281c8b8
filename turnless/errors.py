"""All that the program refuses, each kind under TurnError alone."""


class TurnError(ValueError):
    """Something was refused."""


class NoProblem(TurnError):
    """There is no problem of so many truths."""


class NoClause(TurnError):
    """What stands at this place is no clause."""

    def __init__(self, at):
        super().__init__(f"no clause at {at}")
        self.at = at


class TooMany(TurnError):
    """There are more than are allowed."""


class NoText(TurnError):
    """This row, from 0, hasn't the form that is read."""

    def __init__(self, row):
        super().__init__(f"not the form of a row: {row}")
        self.row = row


class NoTurn(TurnError):
    """This is no turn, or one of another number of truths."""


class NoLetter(TurnError):
    """This is no letter, or no list of letters that is wanted."""


class NotThere(TurnError):
    """What is asked for isn't there; at may be None."""

    def __init__(self, at):
        super().__init__(f"not there: {at}")
        self.at = at


class NoStep(TurnError):
    """This is no step that the judge lets by."""


class NoLog(TurnError):
    """The step at this place isn't let by."""

    def __init__(self, at):
        super().__init__(f"no step at {at}")
        self.at = at


class NoWay(TurnError):
    """There is no such way to solve."""


class NoPart(TurnError):
    """This is no part."""


class NoAnswer(TurnError):
    """This is no answer."""


class NoAsk(TurnError):
    """What was told is no truth that can be asked for."""


class Twice(TurnError):
    """This stands already."""


class NoDeed(TurnError):
    """What stands at this place is no deed; at may be None."""

    def __init__(self, at):
        super().__init__(f"no deed at {at}")
        self.at = at
