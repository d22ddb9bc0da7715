"""Boards written as lines of text, and read again."""

from marblefall.boards import is_board, need_board
from marblefall.errors import NoText

FIGURES = "0123456789"
MOST_FIGURES = 13


def is_number_text(text):
    """Whether the text is a number in figures, thirteen at most, without a nought ahead but 0 itself."""
    if not 1 <= len(text) <= MOST_FIGURES or not all([sign in FIGURES for sign in text]):
        return False
    return text == "0" or text[0] != "0"


def step_text(step):
    """The step as it is written."""
    return ",".join([str(end) for end in step]) if step != () else "-"


def wheel_text(steps):
    """The line of the wheel, without its line end."""
    return " ".join(["wheel"] + [step_text(step) for step in steps])


def board_text(board):
    """The lines of the board, each with a line end."""
    need_board(board)
    wheels, cups = board
    lines = [f"cups {cups}"] + [wheel_text(steps) for steps in wheels]
    return "".join([line + "\n" for line in lines])


def read_step(text):
    """The step that is written so, None where none is by the form."""
    if text == "-":
        return ()
    ends = text.split(",")
    return tuple([int(end) for end in ends]) if all([is_number_text(end) for end in ends]) else None


def read_wheel(line):
    """The wheel that is written so, None where none is by the form."""
    word, *texts = line.split(" ")
    steps = [read_step(text) for text in texts]
    if word != "wheel" or steps == [] or None in steps:
        return None
    return tuple(steps)


def read_cups(line):
    """How many cups are written so, None where none are by the form."""
    word, blank, number = line.partition(" ")
    return int(number) if word == "cups" and is_number_text(number) else None


def read_board(text):
    """The board that the text writes."""
    if not isinstance(text, str) or not text.endswith("\n"):
        raise NoText(0)
    lines = text[:-1].split("\n")
    cups = read_cups(lines[0])
    if cups is None:
        raise NoText(1)
    wheels = [read_wheel(line) for line in lines[1:]]
    if None in wheels:
        raise NoText(wheels.index(None) + 2)
    board = (tuple(wheels), cups)
    if not is_board(board):
        raise NoText(len(lines) + 1)
    return board
