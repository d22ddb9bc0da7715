"""A desk at which works are told what to do, line by line."""

from marblefall.boards import need_wheel
from marblefall.drains import drain_of
from marblefall.errors import NoBoard, NoLine, NoText
from marblefall.shares import shares
from marblefall.stands import is_again
from marblefall.texts import is_number_text, read_board
from marblefall.works import Works

BOARD = "board "


def spaced(parts):
    """The parts with blanks between, none where there are none."""
    return " ".join([str(part) for part in parts]) if len(parts) > 0 else "none"


def yes_or_no(answer):
    """The word for it."""
    return "yes" if answer else "no"


def drains(board):
    """Whether the board drains."""
    return drain_of(board)[0] == "drains"


def share_text(share):
    """The fraction as it is written."""
    top, bottom = share
    return str(top) if bottom == 1 else f"{top}/{bottom}"


def say_lay(works, numbers):
    """Lay marbles."""
    works.lay(numbers[0], numbers[1])
    return "ok"


def say_handle(works, numbers):
    """Handle a marble."""
    works.handle(numbers[0])
    return "ok"


def say_undo(works, numbers):
    """Undo the last deed."""
    works.undo()
    return "ok"


def say_settle(works, numbers):
    """Handle all to rest: the counts."""
    return spaced(works.settle())


def say_stand(works, numbers):
    """The stand."""
    return spaced(works.moment()[0])


def say_waiting(works, numbers):
    """How many wait."""
    return spaced(works.moment()[1])


def say_held(works, numbers):
    """How many are held."""
    return spaced(works.moment()[2])


def say_end(works, numbers):
    """The end that would come."""
    end = works.end()
    return "rests " + spaced(end[1]) if end[0] == "rests" else "never"


def say_drains(works, numbers):
    """Whether the board drains."""
    return yes_or_no(drains(works.board))


def say_again(works, numbers):
    """Whether the stand comes again, on a board that drains."""
    if not drains(works.board):
        return "board"
    return yes_or_no(is_again(works.board, works.moment()[0]))


def say_shares(works, numbers):
    """The shares of a wheel."""
    of_wheels = shares(works.board)
    need_wheel(works.board, numbers[0])
    return spaced([share_text(share) for share in of_wheels[numbers[0]]])


# Of each word how many numbers stand behind it, and what answers it.
NUMBERS = {
    "lay": 2, "handle": 1, "undo": 0, "settle": 0, "stand": 0, "waiting": 0, "held": 0, "end": 0, "drains": 0,
    "again": 0, "shares": 1,
}
ANSWERS = {
    "lay": say_lay, "handle": say_handle, "undo": say_undo, "settle": say_settle, "stand": say_stand,
    "waiting": say_waiting, "held": say_held, "end": say_end, "drains": say_drains, "again": say_again,
    "shares": say_shares,
}


def need_one_line(thing):
    """Refuse what is no text of one line."""
    if not isinstance(thing, str) or "\n" in thing:
        raise NoLine()


def board_told(text):
    """The board whose lines stand in the text with slashes between."""
    try:
        return read_board(text.replace(" / ", "\n") + "\n")
    except NoText:
        raise NoLine() from None


def words_told(line):
    """(word, numbers) of a line that is none of a board."""
    word, *texts = line.split(" ")
    if word not in NUMBERS or len(texts) != NUMBERS[word] or not all([is_number_text(text) for text in texts]):
        raise NoLine()
    return word, [int(text) for text in texts]


class Desk:
    """A desk that keeps works, at first none."""

    def __init__(self):
        self.works = None

    def say(self, line):
        """What is answered to the line."""
        need_one_line(line)
        if line.startswith(BOARD):
            board = board_told(line[len(BOARD):])
            self.works = Works(board, (0,) * len(board[0]))
            return "ok"
        word, numbers = words_told(line)
        if self.works is None:
            raise NoBoard()
        answer = ANSWERS[word]
        return answer(self.works, numbers)
