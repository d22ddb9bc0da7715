"""What is refused: one error class for each kind of refusal."""


class MarbleError(ValueError):
    """Any refusal of this program."""


class NoBoard(MarbleError):
    """It is no board."""


class NoStand(MarbleError):
    """It is no stand of the board."""


class NoMoment(MarbleError):
    """It is no moment of the board."""


class NoWheel(MarbleError):
    """It is no number of a wheel of the board."""


class NotNow(MarbleError):
    """It can't be done or told as things are."""


class NoRow(MarbleError):
    """It is no row of the board, or none that is let."""


class NoDrain(MarbleError):
    """The board doesn't drain."""


class NoDrops(MarbleError):
    """They are no drops for the board."""


class NoAgain(MarbleError):
    """The stand doesn't come again."""


class NoNumber(MarbleError):
    """It is no number that is let here."""


class NoLinks(MarbleError):
    """They are no links from the one board to the other."""


class NoMouths(MarbleError):
    """They are no mouths of the board."""


class NoWord(MarbleError):
    """It is no word of the teller."""


class NotAlike(MarbleError):
    """The tellers have not as many mouths or not as many cups."""


class NoFault(MarbleError):
    """It is no fault of the teller."""


class NoSeen(MarbleError):
    """It is nothing that can be seen of the word."""


class NoHands(MarbleError):
    """It is no number of hands."""


class NoDeed(MarbleError):
    """There is no deed to undo."""


class NoLine(MarbleError):
    """It is no line that the desk knows."""


class NoText(MarbleError):
    """It is no text of a board, from this line on."""

    def __init__(self, line):
        super().__init__(f"no text of a board: line {line}")
        self.line = line


class TooMany(MarbleError):
    """There are so many, and at most so many are let."""

    def __init__(self, many, most):
        super().__init__(f"too many: {many}, at most {most}")
        self.many = many
        self.most = most
